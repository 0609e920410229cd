/-
  What the proofs of OptTells need: Ow.
-/
import Derived.Test.YtcehklnonhalhaaSTOv
import Derived.Laws.StructEq
set_option linter.unusedVariables false
namespace Go.Proofs.Ytcehklnonhalhaa
open Go.RowKit
attribute [local go_sem ↓] zbT zbS
set_option maxRecDepth 20000 in
set_option maxHeartbeats 8000000 in
theorem rshare_yes {An Ai Ao : Option Addr} {nn cn ni ci no co : Nat} {N : List Nd} {I O : List Pt} {w : World} (h : Nt w An nn cn Ai ni ci Ao no co N I O) (sn : Sw An nn cn) (hm : Nm I O) {dd L : List Nat} (lx : LvN N I O dd L) (hn6 : nn ≤ 1000) (hno : no ≤ 66) (hb : ∀ p ∈ I ++ O,p.bits.length ≤ 4000) :
  Calls Try.prog 64 #[.agg #[.slice An nn cn,.slice Ai ni ci,.slice Ao no co]] w fun en w' => (∃ M S F,runK N L = (M,S,F) ∧ SI N (fun q => L.idxOf q) L.length M S F ∧ ShS w.heap.size Ai ni ci no M S I O nn en w') ∧ Below w.heap.size w w':=by
 have K4:=Lib.hid hb
 have H0:=Lib.hid h
 clear hb
 have LX:=Lib.hid lx
 have HM:=Lib.hid hm
 have H3:=Lib.hid h.n.1
 have HDL : Hid (dd.length ≤ 1000):=Lib.hid (by rw [level_len lx.lev]; have:=H3.out; omega)
 clear lx hm
 go_enter Try.func64,Try.ntmps64
 go_upto_region 1 with fail
 obtain ⟨w1,e1,z0,ZR,BW⟩:=zmA w [.slice An nn cn,.slice Ai ni ci,.slice Ao no co] 25 [.slice none 0 0,.slice none 0 0,.slice none 0 0] 25
 rw [e1]
 clear e1
 replace h:=h.on BW
 obtain ⟨s1,hs1,hws,hn01⟩:=zmS w
 rw [hs1] at ZR ⊢
 clear hs1
 obtain ⟨c0,c1,c2⟩:=z0.zb3
 go_wp2_with fail
 refine (rorder_as h HM.out.nm HM.out.c LX.out.lev HDL.out).mono ?_
 rintro en w2 ⟨Aq,mq,cq,rfl,hIq,_,b⟩
 rw [LX.out.ord] at hIq
 clear c0 c1 c2
 replace z0:=z0.on b
 replace h:=h.on b
 replace ZR:=ZR.below b ZR.lt
 replace BW:=Below.step BW b
 clear b
 have b3 : Below w2.heap.size w2 (w2.alloc (.cells #[] 43)):=zaa _ _
 have hrow : (w2.alloc (.cells #[] 43)).ownsRow w2.heap.size 43 4 (.slice (some ⟨w2.heap.size,0,none⟩) 0 0) 0 []:=World.ownsRow_lit w2 #[] 0 (Nat.le_refl _) (by unfold maxLen; omega) rfl
 have c0:=(z0.on b3).2 0 _ rfl
 have hN3:=h.n.on b3
 have hl3 : (N.flatMap ndC).length = nn * 4:=by rw [zas ndC 4 za1,H3.out]
 go_upto_region 4 with fail
 go_upto_region 5 with (at_builtin; refine zax (A:=An) (m:=nn) (c:=cn) rfl _ _ 22 rfl zbX (by omega) (by omega) w2.heap.size _ _ _ rfl hrow (N.flatMap ndC) rfl sn.none_ hl3 hN3.cells (zdG _) (by omega) b3.size ?_; intro vl w4 hr4 hg4)
 clear c0 hN3 hl3
 have B4:=za5 hrow b3 (Nat.le_refl _) hg4
 clear hg4 hrow b3
 rw [List.nil_append,Nat.zero_add] at hr4
 have K2 : Hid (w4.ownsRow w2.heap.size 43 4 vl nn (N.flatMap ndC)):=Lib.hid hr4
 have K4:=Lib.hid B4
 clear hr4
 go_upto_region 6 with fail
 have hrow : (w4.alloc (.cells #[] 3)).ownsRow w4.heap.size 3 1 (.slice (some ⟨w4.heap.size,0,none⟩) 0 0) 0 []:=World.ownsRow_lit w4 #[] 0 (Nat.le_refl _) (by unfold maxLen; omega) rfl
 have b5 : Below w4.heap.size w4 (w4.alloc (.cells #[] 3)):=zaa _ _
 obtain ⟨w5,e5⟩ : ∃ w',w4.alloc (.cells #[] 3) = w':=⟨_,rfl⟩
 rw [e5] at hrow b5 ⊢
 obtain ⟨s5,hs5⟩ : ∃ s5,w4.heap.size = s5:=⟨_,rfl⟩
 have HS5 : Hid (w4.heap.size = s5):=Lib.hid hs5
 have HR5 : Hid (w5.ownsRow w4.heap.size 3 1 (.slice (some ⟨s5,0,none⟩) 0 0) 0 ((idL 0).flatMap inC)):=Lib.hid (by rw [← HS5.out]; exact hrow)
 have HB5:=Lib.hid b5
 have e0 : Value.slice (some ⟨w4.heap.size,0,none⟩) 0 0 = Value.slice (some ⟨s5,0,none⟩) 0 0:=by rw [hs5]
 rw [e0]
 clear e0 e5 hrow b5 hs5
 obtain ⟨Al,cl,rfl,swl,hol,_⟩:=zbj K2.out
 have HOL:=Lib.hid hol
 clear hol
 go_wp2_with fail
 go_loopw [8,9] (fun tv iv wr => ∃ (vt : Value) (j : Nat),vt = tv ∧ j ≤ nn ∧ iv = .int .i64 j ∧ Hid (wr.ownsRow w4.heap.size 3 1 vt j ((idL j).flatMap inC)) ∧ Hid (Below w4.heap.size w4 wr)) (fun _ iv _ => nn - (intOf iv).toNat)
 case atStart => exact ⟨_,0,rfl,Nat.zero_le _,rfl,HR5,HB5⟩
 clear HR5 HB5
 obtain ⟨vt,j,rfl,hj,rfl,HROW,HBR⟩:=hrel
 by_cases hlt : j < nn
 ·have Hg : (j : Int) < (nn : Int):=by omega
  have hj0 : (0 : Int) ≤ (j : Int):=by omega
  have hln : ((idL j).flatMap inC).length = j:=by rw [zas inC 1 zaC,idL_len]; omega
  have hbw : w4.heap.size ≤ wr.heap.size:=HBR.out.size
  have hr:=HROW.out
  go_upto_region 8 with (at_builtin; refine zbR wr rfl _ _ 39 rfl zbI (by omega) w4.heap.size vt j ((idL j).flatMap inC) hln rfl hr (.int .i64 (j : Int)) rfl rfl (by omega) hbw ?_; intro v' w6 hr6 hG6 hnb6)
  have bl : Below wr.heap.size wr (wr.alloc (.cells #[.int .i64 (j : Int)] 3)):=zaa _ _
  have eT : (idL j).flatMap inC ++ [.int .i64 (j : Int)] = (idL (j + 1)).flatMap inC:=by rw [idL_s,List.flatMap_append]; rfl
  rw [eT] at hr6
  have HR6:=Lib.hid hr6
  have B6:=(Below.step HBR.out bl).grown hG6 (Nat.le_trans hbw bl.size) (fun k hk => (hr.lt k hk).1)
  have HB6:=Lib.hid B6
  clear hr hr6 hG6 hnb6 bl eT B6 HROW hln
  go_wp2_with fail
  go_roundw
  case rel => exact ⟨v',j + 1,rfl,by omega,by go_num,HR6,HB6⟩
  case measure => simp [intOf]; omega
 obtain rfl : nn = j:=by omega
 have Hg : ¬ (nn : Int) < (nn : Int):=by omega
 obtain ⟨As,cs,rfl,sws,_,_⟩:=za4 HROW.out
 obtain ⟨w7,rfl⟩ : ∃ x,x = wr:=⟨_,rfl⟩
 have B7:=B4.trans (HBR.out.mono B4.size)
 have Ha : Hid (SH N L nn Al cl As cs w2.heap.size w4.heap.size w2 0 0 w7):=Lib.hid (SH.start H3.out (zam K2.out HBR.out) HROW.out B7)
 have hLl : L.length ≤ 1000:=by
  have:=zcm N.length L LX.out.nd (fun x hx => (LX.out.mem x).1 hx)
  have:=H3.out
  omega
 have hmq : L.length = mq:=by rw [← hIq.1]; unfold nI; rw [List.length_map]
 have Hm : Hid (w2.heap.size ≤ w4.heap.size):=Lib.hid B4.size
 subst hmq
 clear K2 K4 HROW HBR B4 B7 swl sws HOL hj hlt
 go_wp2_with fail
 clear Hg
 go_loopw [10,11] (fun mv iv wr => ∃ (j many : Nat),j ≤ L.length ∧ iv = .int .i64 j ∧ mv = .int .i64 many ∧ Hid (SH N L nn Al cl As cs w2.heap.size w4.heap.size w2 j many wr)) (fun _ iv _ => L.length - (intOf iv).toNat)
 case atStart => exact ⟨0,0,Nat.zero_le _,rfl,rfl,Ha⟩
 clear Ha
 obtain ⟨j,many,hj,rfl,rfl,Ha⟩:=hrel
 obtain ⟨M,S,F,hrun,FJ,RN,RI,BR,hmany⟩:=Ha.out
 by_cases hlt : j < L.length
 ·have Hg : (j : Int) < (L.length : Int):=by omega
  have hj0 : (0 : Int) ≤ (j : Int):=by omega
  obtain ⟨q,hq⟩ : ∃ q,L[j]? = some q:=⟨_,List.getElem?_eq_getElem hlt⟩
  have Hw : q < N.length:=(LX.out.mem q).1 (List.mem_of_getElem? hq)
  have H9 : q < nn:=by rw [← H3.out]; exact Hw
  obtain ⟨bq,oq,eAq,iq⟩:=(hIq.on BR).iat hlt
  have eq : (nI L).getD j 0 = (q : Int):=by unfold nI; rw [List.getD_eq_getElem?_getD,List.getElem?_map,hq]; rfl
  rw [eq] at iq
  have Ht:=iq.2
  obtain ⟨b0,b1,rfl,rfl,RR⟩:=rr_of RN RI BR (Nat.le_refl _) Hm.out (by omega)
  obtain ⟨x,hx⟩ : ∃ x,M.getD q nd0 = x:=⟨_,rfl⟩
  obtain ⟨hA,HX⟩:=RR.nat H9 hx
  obtain ⟨x1,x2,x3,x4⟩:=x
  have K3:=Lib.hid hx
  subst eAq
  have hq1 : (q : Int) < (nn : Int):=by omega
  have hq0 : (0 : Int) ≤ (q : Int):=by omega
  have d1:=hA.c1; have d2:=hA.c2; have d3:=hA.c3; have d4:=hA.c4
  have HQ:=Lib.hid hq
  have H6:=Lib.hid hrun
  have Hb:=Lib.hid FJ
  have H2:=Lib.hid RR
  have HQN:=Lib.hid Hw
  have Hr:=Lib.hid hmany
  have hmb : many ≤ nn:=by rw [hmany]; exact zeS _ _
  clear hq hrun FJ RN RI BR Ha hx HX eq Hw iq hA RR hmany
  dsimp only at d1 d2 d3 d4
  by_cases hk : x1 = 1 ∨ x1 = 7
  case pos =>
   have Hn:=Lib.hid (share_stay LX.out H3.out HQ.out H6.out Hb.out K3.out hk)
   have Hc : Hid (SH N L nn (some ⟨b0,0,none⟩) cl (some ⟨b1,0,none⟩) cs w2.heap.size w4.heap.size w2 (j + 1) many wr):=Lib.hid ⟨M,S.set q (q : Int),F,Hn.out.1,Hn.out.2.1,H2.out.rn,by rw [Hn.out.2.2]; exact H2.out.rs,H2.out.bl,by rw [Hn.out.2.2]; exact Hr.out⟩
   rcases hk with rfl | rfl
   all_goals
    go_wp2_with fail
    go_roundw
    case rel => exact ⟨j + 1,many,by omega,by go_num,rfl,Hc⟩
    case measure => simp [intOf]; omega
  have t1 : (x1 == 1) = false:=by simpa using fun e => hk (.inl e)
  have t2 : (x1 == 7) = false:=by simpa using fun e => hk (.inr e)
  have Hp:=Lib.hid (share_plc LX.out H3.out HQ.out Hb.out K3.out)
  go_wp2_with fail
  refine (rby_as H2.out.is Hp.out).mono ?_
  rintro en w8 ⟨rfl,b⟩
  obtain ⟨y,hy⟩ : ∃ y,keyS (mvN (rS L nn j S) ⟨x1,x2,x3,x4⟩) = y:=⟨_,rfl⟩
  rw [hy]
  obtain ⟨S',F',hg1,hg2,hg3⟩:=share_gate LX.out H3.out HQ.out H6.out Hb.out K3.out hk hy
  have HG1:=Lib.hid hg1
  have HG2:=Lib.hid hg2
  have HG3:=Lib.hid hg3
  have RR:=H2.out.on b
  clear d1 d2 d3 d4 t1 t2 hk hy hg1 hg2 hg3 H2 b Ht Hp H6 Hb
  obtain ⟨y1,y2,y3,y4⟩:=y
  unfold ndA
  dsimp only
  have hA:=(RR.nat H9 rfl).1
  have d1:=hA.c1; have d2:=hA.c2; have d3:=hA.c3; have d4:=hA.c4
  have f0:=RR.fr0 (q * 4); have f1:=RR.fr0 (q * 4 + 1); have f2:=RR.fr0 (q * 4 + 2); have f3:=RR.fr0 (q * 4 + 3)
  go_upto_region 17 with fail
  clear d1 d2 d3 d4 f0 f1 f2 f3 hA
  replace RR:=RR.putN q y1 y2 y3 y4
  obtain ⟨w9,e9⟩ : ∃ w',(((w8.setCell ⟨b0,q * 4,none⟩ (.int .i64 y1)).setCell ⟨b0,q * 4 + 1,none⟩ (.int .i64 y2)).setCell ⟨b0,q * 4 + 2,none⟩ (.int .i64 y3)).setCell ⟨b0,q * 4 + 3,none⟩ (.int .i64 y4) = w':=⟨_,rfl⟩
  rw [e9] at RR ⊢
  clear e9
  have HR9:=Lib.hid RR
  have HSQ : Hid ((rS L nn j S).getD q 0 = (q : Int)):=Lib.hid (rS_self LX.out.nd HQ.out H9)
  have HM9 : Hid ((M.set q ⟨y1,y2,y3,y4⟩).getD q nd0 = ⟨y1,y2,y3,y4⟩):=Lib.hid (by
   have hl : q < M.length:=by have:=RR.lm; rw [List.length_set] at this; omega
   rw [zaT M q _ nd0 q hl,if_pos rfl])
  have HRL : Hid (q < (rS L nn j S).length):=Lib.hid (by rw [zdf]; exact H9)
  clear RR
  go_wp2_with fail
  go_loopw [10,13] (fun mv kv wr => ∃ (k : Nat) (fo : Option Nat),k ≤ j ∧ kv = .int .i64 k ∧ Hid ((L.take k).find? (pK (M.set q ⟨y1,y2,y3,y4⟩) ⟨y1,y2,y3,y4⟩) = fo) ∧ mv = .int .i64 (chS (stQ (rS L nn j S) q fo) nn : Nat) ∧ Hid (Rr w2 wr w2.heap.size w4.heap.size b0 cl b1 cs nn (M.set q ⟨y1,y2,y3,y4⟩) (stQ (rS L nn j S) q fo))) (fun _ kv _ => j - (intOf kv).toNat)
  case atStart => exact ⟨0,none,Nat.zero_le _,rfl,Lib.hid rfl,by rw [Hr.out]; rfl,HR9⟩
  clear HR9
  obtain ⟨k,fo,hkj,rfl,HFO,rfl,H2⟩:=hrel
  have hcb:=zeS (stQ (rS L nn j S) q fo) nn
  obtain ⟨ch,hch⟩ : ∃ c,chS (stQ (rS L nn j S) q fo) nn = c:=⟨_,rfl⟩
  rw [hch] at hcb ⊢
  have Hd:=Lib.hid hch
  clear hch
  by_cases hkl : k < j
  ·have Hy : (k : Int) < (j : Int):=by omega
   have hk0 : (0 : Int) ≤ (k : Int):=by omega
   have hkL : k < L.length:=by omega
   have hkLn : (k : Int) < (L.length : Int):=by omega
   obtain ⟨r,hr⟩ : ∃ r,L[k]? = some r:=⟨_,List.getElem?_eq_getElem hkL⟩
   have hrn : r < nn:=by rw [← H3.out]; exact (LX.out.mem r).1 (List.mem_of_getElem? hr)
   have hrq : r ≠ q:=fun e => by
    have e1:=zdE LX.out.nd hr
    have e2:=zdE LX.out.nd HQ.out
    rw [e] at e1
    omega
   obtain ⟨bq',oq',eAq,iq⟩:=(hIq.on H2.out.bl).iat hkL
   injection eAq with eAq
   injection eAq with eA1 eA2
   subst eA1 eA2
   have eq : (nI L).getD k 0 = (r : Int):=by unfold nI; rw [List.getD_eq_getElem?_getD,List.getElem?_map,hr]; rfl
   rw [eq] at iq
   have Ht:=iq.2
   have hr1 : (r : Int) < (nn : Int):=by omega
   have Hi : (0 : Int) ≤ (r : Int):=by omega
   have Ho:=Lib.hid hr
   have s0:=H2.out.sc H9
   clear hr eq iq
   cases fo with
   | some p =>
    have hpq : (p : Int) ≠ (q : Int):=fun e => by
     obtain ⟨k',hk'⟩:=List.mem_iff_getElem?.1 (List.mem_of_find?_eq_some HFO.out)
     obtain ⟨k1,k2⟩:=zdL.1 hk'
     have e1:=zdE LX.out.nd k2
     have e2:=zdE LX.out.nd HQ.out
     have : p = q:=by omega
     rw [this] at e1
     omega
    have es : (stQ (rS L nn j S) q (some p)).getD q 0 = (p : Int):=by
     unfold stQ
     rw [zaT _ q _ 0 q HRL.out,if_pos rfl]
    rw [es] at s0
    have t1 : ((p : Int) == (q : Int)) = false:=by simpa using hpq
    clear hpq es
    have H7:=Lib.hid (find_on HFO.out)
    go_upto_region 20 with fail
    go_quiet (fail)
    go_wp2_with fail
    go_roundw
    case rel => exact ⟨k + 1,some p,by omega,by go_num,H7,by rw [Hd.out],Lib.hid (H2.out.on (zaD (Below.refl _ _) nq))⟩
    case measure => simp [intOf]; omega
   | none =>
    have es : (stQ (rS L nn j S) q none).getD q 0 = (q : Int):=HSQ.out
    rw [es] at s0
    obtain ⟨z,hz⟩ : ∃ z,(M.set q ⟨y1,y2,y3,y4⟩).getD r nd0 = z:=⟨_,rfl⟩
    have hA:=(H2.out.nat hrn hz).1
    have hB:=(H2.out.nat H9 HM9.out).1
    obtain ⟨z1,z2,z3,z4⟩:=z
    have Hq : Hid (pK (M.set q ⟨y1,y2,y3,y4⟩) ⟨y1,y2,y3,y4⟩ r = (!(z1 == 1) && (!(z1 == 7) && za6 ⟨z1,z2,z3,z4⟩ ⟨y1,y2,y3,y4⟩))):=Lib.hid (by unfold pK; rw [hz])
    have a1:=hA.c1; have a2:=hA.c2; have a3:=hA.c3; have a4:=hA.c4
    have d1:=hB.c1; have d2:=hB.c2; have d3:=hB.c3; have d4:=hB.c4
    dsimp only at a1 a2 a3 a4 d1 d2 d3 d4
    clear hA hB hz es
    by_cases g1 : z1 = 1
    ·have u1 : (z1 == 1) = true:=by simpa using g1
     have H7:=Lib.hid (find_no Ho.out HFO.out (by rw [Hq.out,u1]; rfl))
     have t1 : (z1 != 1) = false:=by simpa using g1
     clear u1 g1
     go_upto_region 20 with fail
     go_quiet (fail)
     go_wp2_with fail
     go_roundw
     case rel => exact ⟨k + 1,none,by omega,by go_num,H7,by rw [Hd.out],Lib.hid (H2.out.on (zaD (Below.refl _ _) nq))⟩
     case measure => simp [intOf]; omega
    have u1 : (z1 == 1) = false:=by simpa using g1
    have t1 : (z1 != 1) = true:=by simpa using g1
    by_cases g7 : z1 = 7
    ·have u7 : (z1 == 7) = true:=by simpa using g7
     have H7:=Lib.hid (find_no Ho.out HFO.out (by rw [Hq.out,u1,u7]; rfl))
     have t7 : (z1 != 7) = false:=by simpa using g7
     clear u1 u7 g1 g7
     go_upto_region 20 with fail
     go_quiet (fail)
     go_wp2_with fail
     go_roundw
     case rel => exact ⟨k + 1,none,by omega,by go_num,H7,by rw [Hd.out],Lib.hid (H2.out.on (zaD (Below.refl _ _) nq))⟩
     case measure => simp [intOf]; omega
    have u7 : (z1 == 7) = false:=by simpa using g7
    have t7 : (z1 != 7) = true:=by simpa using g7
    by_cases gs : za6 ⟨z1,z2,z3,z4⟩ ⟨y1,y2,y3,y4⟩ = true
    ·have H7:=Lib.hid (find_yes Ho.out HFO.out (by rw [Hq.out,u1,u7,gs]; rfl))
     have hcn : chS (stQ (rS L nn j S) q (some r)) nn = ch + 1:=by
      rw [← Hd.out]
      show chS ((rS L nn j S).set q (r : Int)) nn = chS (rS L nn j S) nn + 1
      rw [chS_put HRL.out HSQ.out (by omega) nn,if_pos H9]
     have HCN:=Lib.hid hcn
     have f0:=H2.out.fr1 q
     clear u1 u7 g1 g7 hcn
     go_upto_region 20 with fail
     go_quiet (fail)
     go_upto_region 22 with fail
     have RR:=(H2.out.on (zaD (Below.refl _ _) nq)).putI q (r : Int)
     clear a1 a2 a3 a4 d1 d2 d3 d4 f0 s0 Ht t1 t7 H2
     obtain ⟨w22,e22⟩ : ∃ w',(wr.drewN nq).setCell ⟨b1,q,none⟩ (.int .i64 (r : Int)) = w':=⟨_,rfl⟩
     rw [e22] at RR ⊢
     have HR2 : Hid (Rr w2 w22 w2.heap.size w4.heap.size b0 cl b1 cs nn (M.set q ⟨y1,y2,y3,y4⟩) (stQ (rS L nn j S) q (some r))):=Lib.hid RR
     clear e22 RR
     go_wp2_with fail
     go_roundw
     case rel => exact ⟨k + 1,some r,by omega,by go_num,H7,by rw [HCN.out]; go_num,HR2⟩
     case measure => simp [intOf]; omega
    have gf : za6 ⟨z1,z2,z3,z4⟩ ⟨y1,y2,y3,y4⟩ = false:=by simpa using gs
    have H7:=Lib.hid (find_no Ho.out HFO.out (by rw [Hq.out,u1,u7,gf]; rfl))
    clear u1 u7 g1 g7 gs
    go_upto_region 20 with fail
    go_quiet (fail)
    go_wp2_with fail
    go_roundw
    case rel => exact ⟨k + 1,none,by omega,by go_num,H7,by rw [Hd.out],Lib.hid (H2.out.on (zaD (Below.refl _ _) nq))⟩
    case measure => simp [intOf]; omega
  obtain rfl : k = j:=by omega
  have Hy : ¬ (k : Int) < (k : Int):=by omega
  have Hc : Hid (SH N L nn (some ⟨b0,0,none⟩) cl (some ⟨b1,0,none⟩) cs w2.heap.size w4.heap.size w2 (k + 1) ch wr):=Lib.hid ⟨_,S',F',HG1.out,HG2.out,H2.out.rn,by rw [HG3.out,HFO.out]; exact H2.out.rs,H2.out.bl,by rw [HG3.out,HFO.out,Hd.out]⟩
  clear H2 HFO Hd
  go_wp2_with fail
  go_roundw
  case rel => exact ⟨k + 1,ch,by omega,by go_num,rfl,Hc⟩
  case measure => simp [intOf]; omega
 obtain rfl : j = L.length:=by omega
 clear hmany
 have Hg : ¬ (L.length : Int) < (L.length : Int):=by omega
 obtain ⟨M,S,F,hrun,FJ,HD,hmany⟩:=SH.fd LX.out H3.out Ha.out
 have hmb : many ≤ nn:=by rw [hmany]; exact zeS _ _
 have Hr:=Lib.hid hmany
 have H6:=Lib.hid hrun
 have Hb:=Lib.hid FJ
 have HD0:=Lib.hid HD
 have HLM : Hid (M.length = nn):=Lib.hid (by rw [FJ.rw.lm]; exact H3.out)
 clear hrun FJ HD Ha hmany
 go_wp2_with fail
 clear Hg
 go_loopw [14] (fun iv wr => ∃ (i : Nat),i ≤ nn ∧ iv = .int .i64 i ∧ Hid (FD M S nn Al cl As cs w2.heap.size w4.heap.size w2 i wr)) (fun iv _ => nn - (intOf iv).toNat)
 case atStart => exact ⟨0,Nat.zero_le _,rfl,HD0⟩
 clear HD0
 obtain ⟨i,hi,rfl,HFD⟩:=hrel
 obtain ⟨RN,RI,BR⟩:=HFD.out
 by_cases hlt : i < nn
 ·have hin : (i : Int) < (nn : Int):=by omega
  have hi0 : (0 : Int) ≤ (i : Int):=by omega
  obtain ⟨b0,b1,rfl,rfl,RR⟩:=rr_of RN RI BR (Nat.le_refl _) Hm.out (by omega)
  have Hz : i < M.length:=by rw [HLM.out]; exact hlt
  obtain ⟨x,hx⟩ : ∃ x,M[i]? = some x:=⟨_,List.getElem?_eq_getElem Hz⟩
  have Hu : (mixF (dffS S) i M)[i]? = some x:=(zbJ (dffS S) Hz).trans hx
  have hA:=(RR.nat hlt (x:=x) (by rw [List.getD_eq_getElem?_getD,Hu]; rfl)).1
  have hgx : M.getD i nd0 = x:=by rw [List.getD_eq_getElem?_getD,hx]; rfl
  obtain ⟨x1,x2,x3,x4⟩:=x
  have d1:=hA.c1; have d2:=hA.c2; have Hl:=hA.c3; have Hk:=hA.c4
  dsimp only at d1 d2 Hl Hk
  have HX:=Lib.hid hx
  have HX2:=Lib.hid Hu
  have HGX:=Lib.hid hgx
  have H2:=Lib.hid RR
  clear RN RI BR hx Hu hgx hA RR Hz
  by_cases h7 : x1 = 7
  ·subst h7
   obtain ⟨m,em,hm⟩:=dff_look LX.out Hb.out.rw (fun q hq => List.idxOf_lt_length_of_mem ((LX.out.mem q).2 hq)) (q:=i) (by rw [H3.out]; exact hlt) (by rw [HGX.out])
   rw [HGX.out] at em
   rw [H3.out] at hm
   have em : x2 = (m : Int):=em
   subst em
   have hm1 : (m : Int) < (nn : Int):=by omega
   have hm0 : (0 : Int) ≤ (m : Int):=by omega
   have Hp : Hid (Plc nn (zag ⟨7,(m : Int),x3,x4⟩)):=Lib.hid (fun y hy => ⟨m,List.mem_singleton.1 hy,hm⟩)
   have HKY : Hid (keyS (mvN S ⟨7,(m : Int),x3,x4⟩) = ⟨7,S.getD m 0,x3,x4⟩):=Lib.hid (by
    rw [mvN_dff rfl,key_dff rfl]
    unfold dffS sA
    rw [if_pos rfl,Int.toNat_natCast])
   have d3:=Hl; have d4:=Hk
   go_wp2_with fail
   refine (rby_as H2.out.is Hp.out).mono ?_
   rintro en w8 ⟨rfl,b⟩
   rw [HKY.out]
   obtain ⟨r0,Hi⟩ : ∃ r,S.getD m 0 = r:=⟨_,rfl⟩
   rw [Hi]
   have HV:=Lib.hid Hi
   unfold ndA
   dsimp only
   have RR:=H2.out.on b
   clear d1 d2 d3 d4 Hl Hk Hi b H2
   have hA:=(RR.nat hlt rfl).1
   have d1:=hA.c1; have d2:=hA.c2; have d3:=hA.c3; have d4:=hA.c4
   have f0:=RR.fr0 (i * 4); have f1:=RR.fr0 (i * 4 + 1); have f2:=RR.fr0 (i * 4 + 2); have f3:=RR.fr0 (i * 4 + 3)
   go_upto_region 25 with fail
   clear d1 d2 d3 d4 f0 f1 f2 f3 hA
   replace RR:=RR.putN i 7 r0 x3 x4
   have eM : (mixF (dffS S) i M).set i ⟨7,r0,x3,x4⟩ = mixF (dffS S) (i + 1) M:=by
    rw [dff_mix M S HX.out rfl]
    show _ = (mixF (dffS S) i M).set i ⟨7,sA S (m : Int),x3,x4⟩
    unfold sA
    rw [Int.toNat_natCast,HV.out]
   have Hc : Hid (FD M S nn (some ⟨b0,0,none⟩) cl (some ⟨b1,0,none⟩) cs w2.heap.size w4.heap.size w2 (i + 1) ((((w8.setCell ⟨b0,i * 4,none⟩ (.int .i64 7)).setCell ⟨b0,i * 4 + 1,none⟩ (.int .i64 r0)).setCell ⟨b0,i * 4 + 2,none⟩ (.int .i64 x3)).setCell ⟨b0,i * 4 + 3,none⟩ (.int .i64 x4))):=Lib.hid ⟨by rw [← eM]; exact RR.rn,RR.rs,RR.bl⟩
   clear RR eM
   go_wp2_with fail
   go_roundw
   case rel => exact ⟨i + 1,by omega,by go_num,Hc⟩
   case measure => simp [intOf]; omega
  have t1 : (x1 == 7) = false:=by simpa using h7
  clear Hl Hk
  have Hc : Hid (FD M S nn (some ⟨b0,0,none⟩) cl (some ⟨b1,0,none⟩) cs w2.heap.size w4.heap.size w2 (i + 1) wr):=Lib.hid ⟨by rw [dff_mix0 M S HX.out h7]; exact H2.out.rn,H2.out.rs,H2.out.bl⟩
  clear H2
  go_wp2_with fail
  go_roundw
  case rel => exact ⟨i + 1,by omega,by go_num,Hc⟩
  case measure => simp [intOf]; omega
 obtain rfl : i = nn:=by omega
 have hin : ¬ (i : Int) < (i : Int):=by omega
 obtain ⟨w5,rfl⟩ : ∃ x,x = wr:=⟨_,rfl⟩
 have eM : mixF (dffS S) i M = M.map (dffS S):=by rw [← HLM.out]; exact zcp _ _
 rw [eM] at RN
 have z6:=z0.on BR
 have h6:=h.on BR
 have lR:=ZR.lt
 have H5:=ZR.below BR ZR.lt
 have He:=BW.trans (BR.mono BW.size)
 have HLO : Hid (w.heap.size ≤ w2.heap.size):=Lib.hid BW.size
 have HLO4 : Hid (w.heap.size ≤ w4.heap.size):=Lib.hid (Nat.le_trans BW.size Hm.out)
 have Hf:=BR.size
 have Hh : Is w5 As i S:=by
  obtain ⟨A,c,e,_,_,hs⟩:=za4 RI
  injection e with e1 e2 e3
  rw [e1]
  exact hs
 have HPI : Hid (∀ p ∈ O,Plc i p.bits):=Lib.hid (by
  have hp:=zcR LX.out
  rw [H3.out] at hp
  exact fun p hp1 y hy => hp y (List.mem_append_right _ (List.mem_flatMap.2 ⟨p,hp1,hy⟩)))
 have K1:=Hm.out
 clear z0 h ZR BW HFD BR eM
 go_upto_region 28 with fail
 refine LexG.region_planU (KB3.ok w.heap.size w.heap.size w.heap.size) [6,9] [0,1,2,3,4,5,8,6,7,9,10,11] (h:=?_)
 dsimp only [LexG.pick,LexG.nth]
 have bd : Below w5.heap.size w5 w5.drew:=(Below.refl _ _).drew
 replace z6:=z6.on bd
 replace h6:=h6.on bd
 replace H5:=H5.below bd H5.lt
 replace He:=Below.step He bd
 replace Hh:=Hh.on bd
 replace RN:=zam RN bd
 replace RI:=zam RI bd
 obtain ⟨w7,e7⟩ : ∃ w',w5.drew = w':=⟨_,rfl⟩
 rw [e7] at z6 h6 H5 He Hh RN RI bd ⊢
 have Hv : w2.heap.size ≤ w7.heap.size:=Nat.le_trans Hf bd.size
 clear e7 bd Hf
 have lf1:=fun s : LexG.Wd (KB3 w.heap.size w.heap.size w.heap.size) w7 => (show s.w.cell? ⟨w.heap.size,1,none⟩ = some (Value.slice Ai ni ci) from (zac s.rel.1 1).trans z6.n1)
 have lf2:=fun s : LexG.Wd (KB3 w.heap.size w.heap.size w.heap.size) w7 => (show s.w.cell? ⟨w.heap.size,2,none⟩ = some (Value.slice Ao no co) from (zac s.rel.1 2).trans z6.n2)
 refine LexG.lexU_plain 7 (by kernel_rfl) (by kernel_rfl) ?_
 dsimp only [List.take,List.drop]
 repeat go_big_quiet_step (fail)
 refine wpQuiet_nil ?_
 clear lf1 lf2
 refine LexG.lexU_call (h:=fun K hK => ?_)
 go_simp
 refine (zci h6.o hno (fun p hp => K4.out p (List.mem_append_right _ hp)) Hh HPI.out).mono ?_
 rintro en w9 ⟨Bo,do',rfl,Hj,swo,b⟩
 replace Hj:=Hj.mono Hv
 dsimp only
 have kb:=b.block _ z6.1
 refine hK _ _ ⟨kb,kb,kb⟩ ?_
 clear kb hK K
 replace H5:=H5.below b H5.lt
 replace He:=Below.step He b
 replace RN:=zam RN b
 replace RI:=zam RI b
 clear b z6 h6 Hh
 refine LexG.lexU_plain 1 (by kernel_rfl) (by kernel_rfl) ?_
 dsimp only [List.take,List.drop]
 repeat go_big_quiet_step (fail)
 refine wpQuiet_nil ?_
 obtain ⟨f0,f1,f2⟩:=H5.zof0f1f2
 obtain ⟨p0,p1,p2⟩:=H5.zo3
 refine LexG.lexU_call (h:=fun K hK => ?_)
 go_simp
 have kb : (((w9.setCell ⟨s1,0,none⟩ (.slice Al i cl)).setCell ⟨s1,1,none⟩ (.slice Ai ni ci)).setCell ⟨s1,2,none⟩ (.slice Bo no do')).heap[w.heap.size]? = w9.heap[w.heap.size]?:=by
  rw [Below.heap_setCell _ _ _ _ hn01,Below.heap_setCell _ _ _ _ hn01,Below.heap_setCell _ _ _ _ hn01]
 refine hK _ _ ⟨kb,kb,kb⟩ ?_
 clear kb hK K f0 f1 f2 p0 p1 p2
 have VR:=H5.p3' (.slice Al i cl) (.slice Ai ni ci) (.slice Bo no do')
 have K5:=He.e3' hws (.slice Al i cl) (.slice Ai ni ci) (.slice Bo no do')
 refine LexG.lexU_plain 2 (by kernel_rfl) (by kernel_rfl) ?_
 dsimp only [List.take,List.drop]
 repeat go_big_quiet_step (fail)
 refine wpQuiet_nil ?_
 refine LexG.lexU_nil ?_
 dsimp only [NoPanic]
 have Hs : s1 < w4.heap.size:=Nat.lt_of_lt_of_le lR K1
 have K0:=zak (zak (zak RN lR 0 (.slice Al i cl)) lR 1 (.slice Ai ni ci)) lR 2 (.slice Bo no do')
 have RI7:=zak (zak (zak RI Hs 0 (.slice Al i cl)) Hs 1 (.slice Ai ni ci)) Hs 2 (.slice Bo no do')
 obtain ⟨w10,e10⟩ : ∃ w',((w9.setCell ⟨s1,0,none⟩ (.slice Al i cl)).setCell ⟨s1,1,none⟩ (.slice Ai ni ci)).setCell ⟨s1,2,none⟩ (.slice Bo no do') = w':=⟨_,rfl⟩
 have hkp : ∀ b,w2.heap.size ≤ b → b < w9.heap.size → w10.heap[b]? = w9.heap[b]?:=fun b hb _ => by
  have Hx : b ≠ s1:=by omega
  rw [← e10,Below.heap_setCell _ _ _ _ Hx,Below.heap_setCell _ _ _ _ Hx,Below.heap_setCell _ _ _ _ Hx]
 have H8 : w9.heap.size ≤ w10.heap.size:=by rw [← e10]; simp [World.setCell]
 rw [e10] at VR K5 K0 RI7 ⊢
 have H4:=(Hj.by_ H8 hkp).mono HLO.out
 have HFN : Hid (ShS w.heap.size Ai ni ci no M S I O i (.returned (.tuple #[.agg #[.slice Al i cl,.slice Ai ni ci,.slice Bo no do'],.int .i64 (many : Int),.int .i64 0])) w10):=Lib.hid (by
  rw [Hr.out]
  obtain ⟨A,c,e,sw1,hb1,hs1⟩:=zbj K0
  injection e with e1 e2 e3
  subst e1 e3
  have H1:=H0.out.on K5
  refine ⟨_,_,_,_,rfl,⟨hs1,H1.i,H4.ps,H1.si,swo,H1.hn,H1.hs,fun p hp => ?_⟩,sw1,fun b off e => Nat.le_trans HLO.out (hb1 b off e).1,H4⟩
  rcases List.mem_append.1 hp with hp | hp
  ·exact H1.hb p (List.mem_append_left _ hp)
  obtain ⟨p0,hp0,rfl⟩:=List.mem_map.1 hp
  unfold outF
  rw [List.length_map]
  exact H1.hb p0 (List.mem_append_right _ hp0))
 clear RN RI K0 RI7 H4 hkp H8 e10 Hj H5 He
 obtain ⟨p0,p1,p2⟩:=VR.zo3
 go_wp2_with fail
 exact bodyPost_ret (v:=.tuple #[.agg #[.slice Al i cl,.slice Ai ni ci,.slice Bo no do'],.int .i64 (many : Int),.int .i64 0]) (by simp [results,Try.results64,go_sem,p0,p1,p2]) rfl ⟨⟨M,S,F,H6.out,Hb.out,HFN.out⟩,K5⟩
end Go.Proofs.Ytcehklnonhalhaa
