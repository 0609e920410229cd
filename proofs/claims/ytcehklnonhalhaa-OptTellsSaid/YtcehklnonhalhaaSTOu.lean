/-
  What the proofs of OptTells need: Ou.
-/
import Derived.Test.YtcehklnonhalhaaSTOr
set_option linter.unusedVariables false
namespace Go.Proofs.Ytcehklnonhalhaa
open Go.RowKit
set_option maxRecDepth 20000 in
set_option maxHeartbeats 8000000 in
theorem rfold_yes {An Ai Ao : Option Addr} {nn cn ni ci no co : Nat} {N : List Nd} {I O : List Pt} {w : World} (h : Nt w An nn cn Ai ni ci Ao no co N I O) (sn : Sw An nn cn) (hm : Nm I O) {dd L : List Nat} (lx : LvN N I O dd L) (hn6 : nn ≤ 1000) (hno : no ≤ 66) (hb : ∀ p ∈ I ++ O,p.bits.length ≤ 4000) :
  Calls Try.prog 63 #[.agg #[.slice An nn cn,.slice Ai ni ci,.slice Ao no co]] w fun en w' => (∃ M S,runF N L = (M,S) ∧ FI N (fun q => L.idxOf q) L.length M S ∧ FdS w.heap.size Ai ni ci no M S I O nn en w') ∧ Below w.heap.size w w':=by
 have Ks:=Lib.hid hb
 have H0:=Lib.hid h
 clear hb
 have LX:=Lib.hid lx
 have HM:=Lib.hid hm
 have H9:=Lib.hid h.n.1
 have HDL : Hid (dd.length ≤ 1000):=Lib.hid (by rw [level_len lx.lev]; have:=H9.out; omega)
 clear lx hm
 go_enter Try.func63,Try.ntmps63
 go_upto_region 1 with fail
 obtain ⟨w1,e1,z0,ZR,BW⟩:=zmA w [.slice An nn cn,.slice Ai ni ci,.slice Ao no co] 25 [.slice none 0 0,.slice none 0 0,.slice none 0 0] 25
 rw [e1]
 clear e1
 replace h:=h.on BW
 obtain ⟨s1,hs1,hws,hn01⟩:=zmS w
 rw [hs1] at ZR ⊢
 clear hs1
 obtain ⟨c0,c1,c2⟩:=z0.zb3
 go_wp2_with fail
 refine (rorder_as h HM.out.nm HM.out.c LX.out.lev HDL.out).mono ?_
 rintro en w2 ⟨Aq,mq,cq,rfl,hIq,_,b⟩
 rw [LX.out.ord] at hIq
 clear c0 c1 c2
 replace z0:=z0.on b
 replace h:=h.on b
 replace ZR:=ZR.below b ZR.lt
 replace BW:=Below.step BW b
 clear b
 have b3 : Below w2.heap.size w2 (w2.alloc (.cells #[] 43)):=zaa _ _
 have hrow : (w2.alloc (.cells #[] 43)).ownsRow w2.heap.size 43 4 (.slice (some ⟨w2.heap.size,0,none⟩) 0 0) 0 []:=World.ownsRow_lit w2 #[] 0 (Nat.le_refl _) (by unfold maxLen; omega) rfl
 have c0:=(z0.on b3).2 0 _ rfl
 have hN3:=h.n.on b3
 have hl3 : (N.flatMap ndC).length = nn * 4:=by rw [zas ndC 4 za1,H9.out]
 go_upto_region 4 with fail
 go_upto_region 5 with (at_builtin; refine zax (A:=An) (m:=nn) (c:=cn) rfl _ _ 22 rfl zbX (by omega) (by omega) w2.heap.size _ _ _ rfl hrow (N.flatMap ndC) rfl sn.none_ hl3 hN3.cells (zdG _) (by omega) b3.size ?_; intro vl w4 hr4 hg4)
 clear c0 hN3 hl3
 have B4:=za5 hrow b3 (Nat.le_refl _) hg4
 clear hg4 hrow b3
 rw [List.nil_append,Nat.zero_add] at hr4
 have Kn : Hid (w4.ownsRow w2.heap.size 43 4 vl nn (N.flatMap ndC)):=Lib.hid hr4
 have Ks:=Lib.hid B4
 clear hr4
 go_upto_region 6 with fail
 have hrow : (w4.alloc (.cells #[] 3)).ownsRow w4.heap.size 3 1 (.slice (some ⟨w4.heap.size,0,none⟩) 0 0) 0 []:=World.ownsRow_lit w4 #[] 0 (Nat.le_refl _) (by unfold maxLen; omega) rfl
 have b5 : Below w4.heap.size w4 (w4.alloc (.cells #[] 3)):=zaa _ _
 obtain ⟨w5,e5⟩ : ∃ w',w4.alloc (.cells #[] 3) = w':=⟨_,rfl⟩
 rw [e5] at hrow b5 ⊢
 obtain ⟨s5,hs5⟩ : ∃ s5,w4.heap.size = s5:=⟨_,rfl⟩
 have HS5 : Hid (w4.heap.size = s5):=Lib.hid hs5
 have HR5 : Hid (w5.ownsRow w4.heap.size 3 1 (.slice (some ⟨s5,0,none⟩) 0 0) 0 ((idL 0).flatMap inC)):=Lib.hid (by rw [← HS5.out]; exact hrow)
 have HB5:=Lib.hid b5
 have e0 : Value.slice (some ⟨w4.heap.size,0,none⟩) 0 0 = Value.slice (some ⟨s5,0,none⟩) 0 0:=by rw [hs5]
 rw [e0]
 clear e0 e5 hrow b5 hs5
 obtain ⟨Al,cl,rfl,swl,hol,_⟩:=zbj Kn.out
 have HOL:=Lib.hid hol
 clear hol
 go_wp2_with fail
 go_loopw [8,9] (fun tv iv wr => ∃ (vt : Value) (j : Nat),vt = tv ∧ j ≤ nn ∧ iv = .int .i64 j ∧ Hid (wr.ownsRow w4.heap.size 3 1 vt j ((idL j).flatMap inC)) ∧ Hid (Below w4.heap.size w4 wr)) (fun _ iv _ => nn - (intOf iv).toNat)
 case atStart => exact ⟨_,0,rfl,Nat.zero_le _,rfl,HR5,HB5⟩
 clear HR5 HB5
 obtain ⟨vt,j,rfl,hj,rfl,HROW,HBR⟩:=hrel
 by_cases hlt : j < nn
 ·have Hs : (j : Int) < (nn : Int):=by omega
  have hj0 : (0 : Int) ≤ (j : Int):=by omega
  have hln : ((idL j).flatMap inC).length = j:=by rw [zas inC 1 zaC,idL_len]; omega
  have hbw : w4.heap.size ≤ wr.heap.size:=HBR.out.size
  have hr:=HROW.out
  go_upto_region 8 with (at_builtin; refine zbR wr rfl _ _ 39 rfl zbI (by omega) w4.heap.size vt j ((idL j).flatMap inC) hln rfl hr (.int .i64 (j : Int)) rfl rfl (by omega) hbw ?_; intro v' w6 hr6 hG6 hnb6)
  have bl : Below wr.heap.size wr (wr.alloc (.cells #[.int .i64 (j : Int)] 3)):=zaa _ _
  have eT : (idL j).flatMap inC ++ [.int .i64 (j : Int)] = (idL (j + 1)).flatMap inC:=by rw [idL_s,List.flatMap_append]; rfl
  rw [eT] at hr6
  have HR6:=Lib.hid hr6
  have B6:=(Below.step HBR.out bl).grown hG6 (Nat.le_trans hbw bl.size) (fun k hk => (hr.lt k hk).1)
  have HB6:=Lib.hid B6
  clear hr hr6 hG6 hnb6 bl eT B6 HROW hln
  go_wp2_with fail
  go_roundw
  case rel => exact ⟨v',j + 1,rfl,by omega,by go_num,HR6,HB6⟩
  case measure => simp [intOf]; omega
 obtain rfl : nn = j:=by omega
 have Hs : ¬ (nn : Int) < (nn : Int):=by omega
 obtain ⟨As,cs,rfl,sws,_,_⟩:=za4 HROW.out
 obtain ⟨w7,rfl⟩ : ∃ x,x = wr:=⟨_,rfl⟩
 have B7:=B4.trans (HBR.out.mono B4.size)
 have Hn : Hid (FS N L nn Al cl As cs w2.heap.size w4.heap.size w2 0 w7):=Lib.hid ⟨N,zI nn,by rw [← H9.out]; rfl,by rw [← H9.out]; exact FI.start,zam Kn.out HBR.out,by rw [rS_zero]; exact HROW.out,B7⟩
 have hLl : L.length ≤ 1000:=by
  have:=zcm N.length L LX.out.nd (fun x hx => (LX.out.mem x).1 hx)
  have:=H9.out
  omega
 have hmq : L.length = mq:=by rw [← hIq.1]; unfold nI; rw [List.length_map]
 have K0 : Hid (w2.heap.size ≤ w4.heap.size):=Lib.hid B4.size
 subst hmq
 clear Kn Ks HROW HBR B4 B7 swl sws HOL hj hlt
 go_wp2_with fail
 clear Hs
 go_loopw [10] (fun iv wr => ∃ (j : Nat),j ≤ L.length ∧ iv = .int .i64 j ∧ Hid (FS N L nn Al cl As cs w2.heap.size w4.heap.size w2 j wr)) (fun iv _ => L.length - (intOf iv).toNat)
 case atStart => exact ⟨0,Nat.zero_le _,rfl,Hn⟩
 clear Hn
 obtain ⟨j,hj,rfl,Hn⟩:=hrel
 obtain ⟨M,S,hrun,FJ,RN,RI,BR⟩:=Hn.out
 by_cases hlt : j < L.length
 ·have Hs : (j : Int) < (L.length : Int):=by omega
  have hj0 : (0 : Int) ≤ (j : Int):=by omega
  obtain ⟨q,hq⟩ : ∃ q,L[j]? = some q:=⟨_,List.getElem?_eq_getElem hlt⟩
  have K8 : q < N.length:=(LX.out.mem q).1 (List.mem_of_getElem? hq)
  have Hw : q < nn:=by rw [← H9.out]; exact K8
  obtain ⟨bq,oq,eAq,iq⟩:=(hIq.on BR).iat hlt
  have eq : (nI L).getD j 0 = (q : Int):=by unfold nI; rw [List.getD_eq_getElem?_getD,List.getElem?_map,hq]; rfl
  rw [eq] at iq
  have iqc:=iq.2
  obtain ⟨b0,b1,rfl,rfl,RR⟩:=rr_of RN RI BR (Nat.le_refl _) K0.out (by omega)
  obtain ⟨x,hx⟩ : ∃ x,M.getD q nd0 = x:=⟨_,rfl⟩
  obtain ⟨hA,HX⟩:=RR.nat Hw hx
  obtain ⟨x1,x2,x3,x4⟩:=x
  have Kp:=Lib.hid hx
  subst eAq
  have hq1 : (q : Int) < (nn : Int):=by omega
  have hq0 : (0 : Int) ≤ (q : Int):=by omega
  have d1:=hA.c1; have d2:=hA.c2; have d3:=hA.c3; have d4:=hA.c4
  have HQ:=Lib.hid hq
  have He:=Lib.hid hrun
  have Hp:=Lib.hid FJ
  have H2:=Lib.hid RR
  have HQN:=Lib.hid K8
  clear hq hrun FJ RN RI BR Hn hx HX eq K8 iq hA RR
  dsimp only at d1 d2 d3 d4
  go_upto_region 15 with fail
  obtain ⟨w9,e9⟩ : ∃ w',wr.alloc (.cells #[.int .i64 x1,.int .i64 x2,.int .i64 x3,.int .i64 x4] 43) = w':=⟨_,rfl⟩
  have b9 : Below wr.heap.size wr w9:=e9 ▸ zaa _ _
  have Z9 : Own w9 wr.heap.size 43 [.int .i64 x1,.int .i64 x2,.int .i64 x3,.int .i64 x4]:=by rw [← e9]; exact Own.made wr 43 [.int .i64 x1,.int .i64 x2,.int .i64 x3,.int .i64 x4]
  rw [e9]
  clear e9
  have RR:=H2.out.on b9
  have Hf:=H2.out.lt0
  have hr1:=H2.out.lt1
  obtain ⟨s9,hs9⟩ : ∃ s9,wr.heap.size = s9:=⟨_,rfl⟩
  rw [hs9] at Z9 ⊢
  have n90 : s9 ≠ b0:=by omega
  have n91 : s9 ≠ b1:=by omega
  clear hs9 d1 d2 d3 d4 iqc
  clear b9 Hf hr1
  clear H2
  have a0 : _ = some (Value.int .i64 x1):=Z9.cell 0
  by_cases hk : 2 ≤ x1 ∧ x1 ≤ 6
  case neg =>
   have Kk:=Lib.hid (fold_stay LX.out H9.out HQ.out He.out Hp.out Kp.out hk)
   have Hj : Hid (FS N L nn (some ⟨b0,0,none⟩) cl (some ⟨b1,0,none⟩) cs w2.heap.size w4.heap.size w2 (j + 1) w9):=Lib.hid ⟨M,S.set q (q : Int),Kk.out.1,Kk.out.2.1,RR.rn,by rw [Kk.out.2.2]; exact RR.rs,RR.bl⟩
   rcases (show x1 < 2 ∨ (¬ x1 < 2 ∧ 6 < x1) by omega) with y1 | ⟨y1,y2⟩
   ·have t1 : decide (x1 < 2) = true:=by simpa using y1
    clear hk y1
    go_wp2_with fail
    go_roundw
    case rel => exact ⟨j + 1,by omega,by go_num,Hj⟩
    case measure => simp [intOf]; omega
   have t1 : decide (x1 < 2) = false:=by simpa using y1
   have t2 : decide (6 < x1) = true:=by simpa using y2
   clear hk y1 y2
   go_wp2_with fail
   go_roundw
   case rel => exact ⟨j + 1,by omega,by go_num,Hj⟩
   case measure => simp [intOf]; omega
  obtain ⟨k2,k6⟩:=hk
  have t1 : decide (x1 < 2) = false:=by simpa using k2
  have t2 : decide (6 < x1) = false:=by simpa using k6
  obtain ⟨a1,a2,a3⟩:=Z9.zoc1c2c3
  have HG:=Lib.hid (fold_gate LX.out H9.out HQ.out He.out Hp.out Kp.out ⟨k2,k6⟩)
  go_wp2_with fail
  refine (zbO x1 x2 x3 x4 _).mono ?_
  rintro en w10 ⟨gy,mu,rfl,hoy,HMU,hm3,hgy,b10⟩
  clear a0 a1 a2 a3 t1 t2
  obtain ⟨w11,e11,hbx,b11⟩:=zmB w10 [.int .i64 0,.int .i64 0] 3
  have Kl : w11.ownsRow gy 3 1 (.slice (some ⟨gy,0,none⟩) mu 3) mu (([x2,x3,x4].take mu).flatMap inC):=zam (row_first (xs:=[x2,x3,x4]) hoy hm3 (by simp)) b11
  have Hu : ∀ ad : Addr,(some ⟨w10.heap.size,0,none⟩ : Option Addr) = some ad → ∀ (j : Nat) (u : Value),([.int .i64 0,.int .i64 0] : List Value)[j]? = some u → w11.cell? (ad.add j) = some u:=fun ad e j u hu => by
   injection e with e
   subst e
   rw [zcG,Nat.zero_add]
   exact hbx.2 j u hu
  have Hq : ∀ u ∈ ([.int .i64 0,.int .i64 0] : List Value),u.oneCell' = true:=fun u hu => by
   simp at hu
   rw [hu]
   rfl
  have hgb : gy ≤ w11.heap.size:=Nat.le_of_lt (Nat.lt_of_lt_of_le hoy.lt b11.size)
  go_upto_region 17 with (at_builtin; refine zax (A:=some ⟨w10.heap.size,0,none⟩) (m:=2) (c:=2) rfl _ _ 39 rfl zbI (by omega) (by omega) gy _ _ _ rfl Kl [.int .i64 0,.int .i64 0] rfl (fun e => by cases e) rfl Hu Hq (by omega) hgb ?_; intro v12 w12 R12 G12)
  have Ku : Below w9.heap.size w9 w12:=(Below.step b10 b11).grown G12 (Nat.le_trans b10.size b11.size) (fun k hk => Nat.le_trans hgy (Kl.lt k hk).1)
  obtain ⟨n3,hn3⟩ : ∃ n3,mu + 2 = n3:=⟨_,rfl⟩
  rw [hn3] at R12
  obtain ⟨g2,c2,rfl,hg2,ZU⟩:=row_bx R12 (by omega)
  have l90:=Z9.lt
  replace RR:=RR.on Ku
  replace Z9:=Z9.below Ku Z9.lt
  have n92 : s9 ≠ g2:=by omega
  clear b10 b11 hbx Kl Hu Hq hgb Ku R12 G12 hoy hgy hg2 e11 l90
  obtain ⟨r,hr⟩ : ∃ r,zbn M (q : Int) 4 (rY (rS L nn j S) ⟨x1,x2,x3,x4⟩) = r:=⟨_,rfl⟩
  have HR:=Lib.hid hr
  have Hh:=Lib.hid (HG.out.2.2.2 r hr)
  have K1:=Lib.hid HG.out.1
  have Ko:=Lib.hid HG.out.2.1
  have Ki:=Lib.hid HG.out.2.2.1
  clear hr HG He Hp Kp
  have K2:=Lib.hid (many_26 HMU.out k2 k6)
  have Hk : 1 ≤ mu:=by rcases K2.out with ⟨_,h⟩ | ⟨_,_,h⟩ | ⟨_,h⟩ <;> omega
  obtain ⟨m0,e0,h0⟩:=K1.out x2 (uses_m0 HMU.out Hk)
  subst e0
  obtain ⟨r0,Hf⟩ : ∃ r,(rS L nn j S).getD m0 0 = r:=⟨_,rfl⟩
  obtain ⟨yb,H8⟩ : ∃ v,(if 3 ≤ x1 then sA (rS L nn j S) x3 else 0) = v:=⟨_,rfl⟩
  obtain ⟨yc,hyc⟩ : ∃ v,(if x1 = 6 then sA (rS L nn j S) x4 else 0) = v:=⟨_,rfl⟩
  have HY : Hid (rY (rS L nn j S) ⟨x1,(m0 : Int),x3,x4⟩ = ⟨x1,r0,yb,yc⟩):=Lib.hid (by
   unfold rY
   dsimp only
   rw [H8,hyc,zaS,Hf])
  have Kh:=Lib.hid H8
  have Kg:=Lib.hid hyc
  have q0 : w12.cell? ⟨b1,m0,none⟩ = some (.int .i64 r0):=by rw [← Hf]; exact RR.sc h0
  have hm0 : (m0 : Int) < (nn : Int):=by omega
  have hz0 : (0 : Int) ≤ (m0 : Int):=by omega
  have hi0 : (0 : Int) < (n3 : Int):=by omega
  have hi1 : (1 : Int) < (n3 : Int):=by omega
  have hi2 : (2 : Int) < (n3 : Int):=by omega
  rw [HY.out] at HR Ko Ki
  have HM1:=Lib.hid Hk
  clear hn3 H8 hyc Hf HY Hk
  have Kc:=Z9.lt; have Kb:=ZU.1; have Hy:=RR.lt1.2
  refine LexG.region_plan (LexG.low_ok w12.heap.size) 0 [0,1,2,3,4,5,6,7,8,9,10] (h:=?_)
  dsimp only [LexG.pick,LexG.nth]
  have bd : Below w12.heap.size w12 w12.drew:=(Below.refl _ _).drew
  replace Z9:=Z9.below bd Z9.lt
  replace ZU:=ZU.on bd
  replace RR:=RR.on bd
  replace q0:=(bd.cell (p:=⟨b1,m0,none⟩) Hy).trans q0
  have Ha : w12.heap.size ≤ w12.drew.heap.size:=Nat.le_refl _
  obtain ⟨B,eB⟩ : ∃ B,w12.heap.size = B:=⟨_,rfl⟩
  obtain ⟨w13,e13⟩ : ∃ w',w12.drew = w':=⟨_,rfl⟩
  rw [e13] at Z9 ZU RR Ha q0 ⊢
  rw [eB] at Kc Kb Hy Ha ⊢
  clear e13 bd eB
  have lf0:=fun s : LexG.Wd (fun w w' => Below B w w') w13 => (show s.w.cell? ⟨s9,0,none⟩ = some (Value.int .i64 x1) from (Z9.below s.rel Kc).cell 0)
  have K4:=fun s : LexG.Wd (fun w w' => Below B w w') w13 => (show s.w.cell? ⟨g2,0,none⟩ = some (Value.int .i64 (m0 : Int)) from bx_m0 (ZU.low Kb s.rel) HM1.out)
  have K3:=fun s : LexG.Wd (fun w w' => Below B w w') w13 => (show s.w.cell? ⟨b1,m0,none⟩ = some (Value.int .i64 r0) from (s.rel.cell (p:=⟨b1,m0,none⟩) Hy).trans q0)
  refine LexG.lex_plain 9 (by kernel_rfl) ?_
  dsimp only [List.take,List.drop]
  repeat go_big_quiet_step (fail)
  refine wpQuiet_nil ?_
  clear lf0 K4 K3 q0 hm0 hz0
  refine LexG.lex_call (h:=fun K hK => ?_)
  go_simp
  have b : Below w13.heap.size w13 (w13.alloc (.cells #[.int .i64 0,.int .i64 0,.int .i64 0,.int .i64 0] 43)):=zaa _ _
  refine hK _ _ (b.mono Ha) ?_
  clear hK K
  have Z8:=Own.made w13 43 [.int .i64 0,.int .i64 0,.int .i64 0,.int .i64 0]
  have l0:=RR.lt0; have l1:=RR.lt1
  have l9:=Z9.lt; have l2:=ZU.1
  replace Z9:=Z9.below b Z9.lt
  replace ZU:=ZU.on b
  replace RR:=RR.on b
  obtain ⟨sy,hsy⟩ : ∃ s,w13.heap.size = s:=⟨_,rfl⟩
  rw [hsy] at Z8 Ha l0 l1 l9 l2 ⊢
  have y0 : sy ≠ b0:=by omega
  have y1 : sy ≠ b1:=by omega
  have y9 : s9 ≠ sy:=by omega
  have y2 : g2 ≠ sy:=by omega
  have yW : w2.heap.size ≤ sy:=by omega
  obtain ⟨w14,e14⟩ : ∃ w',w13.alloc (.cells #[.int .i64 0,.int .i64 0,.int .i64 0,.int .i64 0] 43) = w':=⟨_,rfl⟩
  have Ht : w13.alloc (.cells ([.int .i64 0,.int .i64 0,.int .i64 0,.int .i64 0] : List Value).toArray 43) = w14:=e14
  rw [Ht] at Z8
  rw [e14] at Z9 ZU RR ⊢
  clear e14 Ht b hsy l0 l1 l9 l2
  refine LexG.lex_call (h:=fun K hK => ?_)
  obtain ⟨zr0,zf0,zr1,zf1,zr2,zf2,zr3,zf3⟩:=Z8.zoc0f0c1f1c2f2c3f3
  go_simp
  clear zr0 zf0 zr1 zf1 zr2 zf2 zr3 zf3
  refine hK _ _ (((((Below.refl B w14).setCell (p:=⟨sy,0,none⟩) Ha _).setCell (p:=⟨sy,1,none⟩) Ha _).setCell (p:=⟨sy,2,none⟩) Ha _).setCell (p:=⟨sy,3,none⟩) Ha _) ?_
  clear hK K
  replace Z9:=(((Z9.apart y9 0 (.int .i64 x1)).apart y9 1 (.int .i64 r0)).apart y9 2 (.int .i64 0)).apart y9 3 (.int .i64 0)
  replace ZU:=(((ZU.apart y2 0 (.int .i64 x1)).apart y2 1 (.int .i64 r0)).apart y2 2 (.int .i64 0)).apart y2 3 (.int .i64 0)
  replace RR:=(((RR.other y0 y1 yW 0 (.int .i64 x1)).other y0 y1 yW 1 (.int .i64 r0)).other y0 y1 yW 2 (.int .i64 0)).other y0 y1 yW 3 (.int .i64 0)
  replace Z8:=Z8.p4' (.int .i64 x1) (.int .i64 r0) (.int .i64 0) (.int .i64 0)
  obtain ⟨w15,e_n⟩ : ∃ w',(((w14.setCell ⟨sy,0,none⟩ (.int .i64 x1)).setCell ⟨sy,1,none⟩ (.int .i64 r0)).setCell ⟨sy,2,none⟩ (.int .i64 0)).setCell ⟨sy,3,none⟩ (.int .i64 0) = w':=⟨_,rfl⟩
  rw [e_n] at Z9 ZU RR Z8 ⊢
  clear e_n
  refine LexG.lex_nil ?_
  dsimp only [NoPanic]
  clear Kc Kb Hy Ha
  have Hm:=Lib.hid Z9; have Hl:=Lib.hid ZU; have H2:=Lib.hid RR
  replace Z8 : Own w15 sy 43 [.int .i64 x1,.int .i64 r0,.int .i64 0,.int .i64 0]:=Z8
  have H3:=Lib.hid Z8
  clear Z9 ZU RR Z8
  have c0 : w15.cell? ⟨s9,0,none⟩ = some (Value.int .i64 x1):=Hm.out.cell 0
  go_upto_if 79 with fail
  clear c0
  go_cut [] (fun wx => Hid (Own wx s9 43 [.int .i64 x1,.int .i64 (m0 : Int),.int .i64 x3,.int .i64 x4]) ∧ Hid (Bx wx g2 (([(m0 : Int),x3,x4].take mu).flatMap inC ++ [.int .i64 0,.int .i64 0])) ∧ Hid (Rr w2 wx w2.heap.size w4.heap.size b0 cl b1 cs nn M (rS L nn j S)) ∧ Hid (Own wx sy 43 [.int .i64 x1,.int .i64 r0,.int .i64 yb,.int .i64 0]))
  case first =>
   by_cases k3 : 3 ≤ x1
   ·have t3 : ¬ x1 < 3:=by omega
    have H6 : 2 ≤ mu:=by rcases K2.out with ⟨h,_⟩ | ⟨_,_,h⟩ | ⟨_,h⟩ <;> omega
    obtain ⟨m1,e1,h1⟩:=K1.out x3 (uses_m1 HMU.out H6)
    subst e1
    have u1:=bx_m1 Hl.out H6
    have H8 : (rS L nn j S).getD m1 0 = yb:=by have:=Kh.out; rw [if_pos k3,zaS] at this; exact this
    have q1 : w15.cell? ⟨b1,m1,none⟩ = some (.int .i64 yb):=by rw [← H8]; exact H2.out.sc h1
    have p1 : w15.cell? ⟨sy,2,none⟩ = some (Value.int .i64 0):=H3.out.cell 2
    have f1:=H3.out.free 2
    have hm1 : (m1 : Int) < (nn : Int):=by omega
    have hz1 : (0 : Int) ≤ (m1 : Int):=by omega
    clear H8 k3 H6
    go_wp2_with fail
    go_meet
    exact ⟨Lib.hid (Hm.out.apart y9 2 (.int .i64 yb)),Lib.hid (Hl.out.apart y2 2 (.int .i64 yb)),Lib.hid (H2.out.other y0 y1 yW 2 (.int .i64 yb)),Lib.hid (H3.out.put 2 (.int .i64 yb))⟩
   have t3 : x1 < 3:=by omega
   have H8 : (0 : Int) = yb:=by have:=Kh.out; rw [if_neg k3] at this; exact this
   subst H8
   clear k3
   go_wp2_with fail
   go_meet
   exact ⟨Hm,Hl,H2,H3⟩
  clear Hm Hl H2 H3 Kh
  obtain ⟨Hm,Hl,H2,H3⟩:=hcut
  obtain ⟨w16,rfl⟩ : ∃ x,x = wc:=⟨_,rfl⟩
  have c0 : w16.cell? ⟨s9,0,none⟩ = some (Value.int .i64 x1):=Hm.out.cell 0
  go_upto_if 89 with fail
  clear c0
  go_cut [] (fun wx => Hid (Rr w2 wx w2.heap.size w4.heap.size b0 cl b1 cs nn M (rS L nn j S)) ∧ Hid (Own wx sy 43 [.int .i64 x1,.int .i64 r0,.int .i64 yb,.int .i64 yc]))
  case first =>
   by_cases k3 : x1 = 6
   ·have t3 : (x1 == 6) = true:=by simpa using k3
    have H6 : 3 ≤ mu:=by rcases K2.out with ⟨h,_⟩ | ⟨_,h,_⟩ | ⟨_,h⟩ <;> omega
    obtain ⟨m1,e1,h1⟩:=K1.out x4 (uses_m2 HMU.out H6)
    subst e1
    have u1:=bx_m2 Hl.out H6
    have H8 : (rS L nn j S).getD m1 0 = yc:=by have:=Kg.out; rw [if_pos k3,zaS] at this; exact this
    have q1 : w16.cell? ⟨b1,m1,none⟩ = some (.int .i64 yc):=by rw [← H8]; exact H2.out.sc h1
    have p1 : w16.cell? ⟨sy,3,none⟩ = some (Value.int .i64 0):=H3.out.cell 3
    have f1:=H3.out.free 3
    have hm1 : (m1 : Int) < (nn : Int):=by omega
    have hz1 : (0 : Int) ≤ (m1 : Int):=by omega
    clear H8 k3 H6
    go_wp2_with fail
    go_meet
    exact ⟨Lib.hid (H2.out.other y0 y1 yW 3 (.int .i64 yc)),Lib.hid (H3.out.put 3 (.int .i64 yc))⟩
   have t3 : (x1 == 6) = false:=by simpa using k3
   have H8 : (0 : Int) = yc:=by have:=Kg.out; rw [if_neg k3] at this; exact this
   subst H8
   clear k3
   go_wp2_with fail
   go_meet
   exact ⟨H2,H3⟩
  clear H2 H3 Hm Hl Kg K2 K1 HM1 HMU hi0 hi1 hi2
  obtain ⟨H2,H3⟩:=hcut
  obtain ⟨w17,rfl⟩ : ∃ x,x = wc:=⟨_,rfl⟩
  have H7 : Hid (LKs M nn (q : Int) r sy w17 ⟨x1,r0,yb,yc⟩ 4):=Lib.hid ⟨H3.out,k2,k6,Ko.out,Ki.out,rk_4 _,HR.out⟩
  clear Ko Ki HR H3 k2 k6 h0
  go_wp2_with fail
  go_loopw [] (fun wr => ∃ (y : Nd) (d : Nat),Hid (LKs M nn (q : Int) r sy wr y d) ∧ Hid (Rr w2 wr w2.heap.size w4.heap.size b0 cl b1 cs nn M (rS L nn j S))) (fun wr => muK sy wr)
  case atStart => exact ⟨_,_,H7,H2⟩
  clear H7 H2
  obtain ⟨y,d,H7,H2⟩:=hrel
  obtain ⟨yk,ya,yb,yc⟩:=y
  have a0 : wr.cell? ⟨sy,0,none⟩ = some (Value.int .i64 yk):=H7.out.own.cell 0
  have a1 : wr.cell? ⟨sy,1,none⟩ = some (Value.int .i64 ya):=H7.out.own.cell 1
  have a2 : wr.cell? ⟨sy,2,none⟩ = some (Value.int .i64 yb):=H7.out.own.cell 2
  have a3 : wr.cell? ⟨sy,3,none⟩ = some (Value.int .i64 yc):=H7.out.own.cell 3
  go_wp2_with fail
  refine (rlook_as H2.out.ns H7.out.k2 H7.out.k6 H7.out.pl H7.out.wk).mono ?_
  rintro en w20 ⟨hRL,b⟩
  obtain ⟨⟨⟨zk,za,zb,zc⟩,sv⟩,hz⟩ : ∃ r,zan M ⟨yk,ya,yb,yc⟩ = r:=⟨_,rfl⟩
  rw [hz] at hRL
  have HZ:=Lib.hid hz
  unfold RL at hRL
  dsimp only at hRL
  subst hRL
  clear a0 a1 a2 a3 hz
  have LK:=H7.out.on b
  have RR:=H2.out.on b
  have Hg:=H7
  clear H7 H2 b
  go_upto_region 23 with fail
  obtain ⟨w21,e21⟩ : ∃ w',w20.alloc (.cells #[.int .i64 zk,.int .i64 za,.int .i64 zb,.int .i64 zc] 43) = w':=⟨_,rfl⟩
  have Kd : Below w20.heap.size w20 w21:=e21 ▸ zaa _ _
  have ZZ : Own w21 w20.heap.size 43 [.int .i64 zk,.int .i64 za,.int .i64 zb,.int .i64 zc]:=by rw [← e21]; exact Own.made w20 43 [.int .i64 zk,.int .i64 za,.int .i64 zb,.int .i64 zc]
  rw [e21]
  have l0:=RR.lt0; have l1:=RR.lt1
  have l8:=LK.own.lt
  have H2:=Lib.hid (RR.on Kd)
  have H3 : Hid (Own w21 sy 43 [.int .i64 yk,.int .i64 ya,.int .i64 yb,.int .i64 yc]):=Lib.hid (LK.on Kd).own
  obtain ⟨sz,Ha⟩ : ∃ s,w20.heap.size = s:=⟨_,rfl⟩
  rw [Ha] at ZZ l0 l1 l8 ⊢
  have n1 : sz ≠ b1:=by omega
  have nz : sz ≠ sy:=by omega
  have Hd:=Lib.hid ZZ
  clear e21 Kd Ha l0 l1 l8 RR LK ZZ
  go_upto_if 104 with fail
  go_cut [] (fun wx => Hid (Own wx sz 43 [.int .i64 zk,.int .i64 za,.int .i64 zb,.int .i64 zc]) ∧ Hid (Own wx sy 43 [.int .i64 yk,.int .i64 ya,.int .i64 yb,.int .i64 yc]) ∧ Hid (Rr w2 wx w2.heap.size w4.heap.size b0 cl b1 cs nn M (if 0 ≤ sv then (rS L nn j S).set q sv else rS L nn j S)))
  case first =>
   by_cases hs : 0 ≤ sv
   ·have t5 : ¬ sv < 0:=by omega
    have p0:=H2.out.sc Hw
    have f0:=H2.out.fr1 q
    have HS:=Lib.hid hs
    clear hs
    go_wp2_with fail
    go_meet
    exact ⟨Lib.hid (Hd.out.apart n1 q (.int .i64 sv)),Lib.hid (H3.out.apart y1 q (.int .i64 sv)),Lib.hid (by rw [if_pos HS.out]; exact H2.out.putI q sv)⟩
   have t5 : sv < 0:=by omega
   have HS : Hid (sv < 0):=Lib.hid t5
   clear hs
   go_wp2_with fail
   go_meet
   exact ⟨Hd,H3,Lib.hid (by rw [if_neg (show ¬ 0 ≤ sv by have:=HS.out; omega)]; exact H2.out)⟩
  clear Hd H3 H2
  obtain ⟨Hd,H3,H2⟩:=hcut
  obtain ⟨w22,rfl⟩ : ∃ x,x = wc:=⟨_,rfl⟩
  have c0 : w22.cell? ⟨sz,0,none⟩ = some (Value.int .i64 zk):=Hd.out.cell 0
  have g0 : w22.cell? ⟨sy,0,none⟩ = some (Value.int .i64 yk):=H3.out.cell 0
  go_upto_region 25 with fail
  go_cut [118] (fun v wx => ∃ u : Bool,v = .bool u ∧ Hid (u = true ↔ (zk = yk ∨ zk = 0)) ∧ wx = w22)
  case first =>
   by_cases ek : zk = yk
   ·have t6 : (zk == yk) = true:=by simpa using ek
    have EK:=Lib.hid ek
    clear ek
    go_wp2_with fail
    go_meet
    exact ⟨true,rfl,Lib.hid ⟨fun _ => .inl EK.out,fun _ => rfl⟩,rfl⟩
   have t6 : (zk == yk) = false:=by simpa using ek
   by_cases e0 : zk = 0
   ·have t7 : (zk == 0) = true:=by simpa using e0
    have EK:=Lib.hid e0
    clear ek e0
    go_wp2_with fail
    go_meet
    exact ⟨true,rfl,Lib.hid ⟨fun _ => .inr EK.out,fun _ => rfl⟩,rfl⟩
   have t7 : (zk == 0) = false:=by simpa using e0
   have EK:=Lib.hid ek
   have E0:=Lib.hid e0
   clear ek e0
   go_wp2_with fail
   go_meet
   exact ⟨false,rfl,Lib.hid ⟨fun h => (by cases h),fun h => (by rcases h with h | h; exact absurd h EK.out; exact absurd h E0.out)⟩,rfl⟩
  clear c0 g0
  obtain ⟨u,rfl,HU,rfl⟩:=hcut
  obtain ⟨w22,rfl⟩ : ∃ x,x = wc:=⟨_,rfl⟩
  have c0:=Hd.out.cell 0; have c1:=Hd.out.cell 1; have c2:=Hd.out.cell 2; have c3:=Hd.out.cell 3
  have g0:=H3.out.cell 0; have g1:=H3.out.cell 1; have Hz:=H3.out.cell 2; have g3:=H3.out.cell 3
  have c0 : _ = some (Value.int .i64 zk):=c0; have c1 : _ = some (Value.int .i64 za):=c1; have c2 : _ = some (Value.int .i64 zb):=c2; have c3 : _ = some (Value.int .i64 zc):=c3
  have g0 : _ = some (Value.int .i64 yk):=g0; have g1 : _ = some (Value.int .i64 ya):=g1; have Hz : _ = some (Value.int .i64 yb):=Hz; have g3 : _ = some (Value.int .i64 yc):=g3
  have f0:=H3.out.free 0; have f1:=H3.out.free 1; have f2:=H3.out.free 2; have f3:=H3.out.free 3
  have H4:=Lib.hid ((((H2.out.other y0 y1 yW 0 (.int .i64 zk)).other y0 y1 yW 1 (.int .i64 za)).other y0 y1 yW 2 (.int .i64 zb)).other y0 y1 yW 3 (.int .i64 zc))
  have H5:=Lib.hid (H3.out.p4' (.int .i64 zk) (.int .i64 za) (.int .i64 zb) (.int .i64 zc))
  cases u with
  | true =>
   have ek : zk = yk ∨ zk = 0:=HU.out.1 rfl
   have er : r = stP (q : Int) (⟨zk,za,zb,zc⟩,sv):=by
    have:=Hg.out.stop (by rw [HZ.out]; exact ek)
    rw [HZ.out] at this
    exact this
   have e1 : r.1 = ⟨zk,za,zb,zc⟩:=by rw [er]; rfl
   have HND : Hid (rS L nn (j + 1) (S.set q r.2) = if 0 ≤ sv then (rS L nn j S).set q sv else rS L nn j S):=Lib.hid (by
    rw [Hh.out.2.2,er]
    unfold stP
    dsimp only
    by_cases hs : 0 ≤ sv
    ·rw [if_pos hs,if_neg (by omega)]
    rw [if_neg hs,if_pos (by omega)]
    exact ze4 LX.out.nd HQ.out Hw)
   have HE1:=Lib.hid e1
   clear ek er e1 H2 H3 Hd Hg HZ HU
   go_upto_region 28 with fail
   clear c0 c1 c2 c3 g0 g1 Hz g3 f0 f1 f2 f3
   obtain ⟨w23,e23⟩ : ∃ w',(((w22.setCell ⟨sy,0,none⟩ (.int .i64 zk)).setCell ⟨sy,1,none⟩ (.int .i64 za)).setCell ⟨sy,2,none⟩ (.int .i64 zb)).setCell ⟨sy,3,none⟩ (.int .i64 zc) = w':=⟨_,rfl⟩
   rw [e23] at H4 H5 ⊢
   clear e23
   have c0 : w23.cell? ⟨sy,0,none⟩ = some (Value.int .i64 zk):=H5.out.cell 0; have c1 : w23.cell? ⟨sy,1,none⟩ = some (Value.int .i64 za):=H5.out.cell 1; have c2 : w23.cell? ⟨sy,2,none⟩ = some (Value.int .i64 zb):=H5.out.cell 2; have c3 : w23.cell? ⟨sy,3,none⟩ = some (Value.int .i64 zc):=H5.out.cell 3
   have hA:=(H4.out.nat Hw rfl).1
   have d0:=hA.c1; have d1:=hA.c2; have d2:=hA.c3; have d3:=hA.c4
   have f0:=H4.out.fr0 (q * 4); have f1:=H4.out.fr0 (q * 4 + 1); have f2:=H4.out.fr0 (q * 4 + 2); have f3:=H4.out.fr0 (q * 4 + 3)
   clear hA
   go_upto_region 12 with fail
   clear c0 c1 c2 c3 d0 d1 d2 d3 f0 f1 f2 f3
   have Hj : Hid (FS N L nn (some ⟨b0,0,none⟩) cl (some ⟨b1,0,none⟩) cs w2.heap.size w4.heap.size w2 (j + 1) ((((w23.setCell ⟨b0,q * 4,none⟩ (.int .i64 zk)).setCell ⟨b0,q * 4 + 1,none⟩ (.int .i64 za)).setCell ⟨b0,q * 4 + 2,none⟩ (.int .i64 zb)).setCell ⟨b0,q * 4 + 3,none⟩ (.int .i64 zc))):=Lib.hid (by
    have RR:=H4.out.putN q zk za zb zc
    exact ⟨M.set q r.1,S.set q r.2,Hh.out.1,Hh.out.2.1,by rw [HE1.out]; exact RR.rn,by rw [HND.out]; exact RR.rs,RR.bl⟩)
   clear H4 H5 HND HE1 Hh
   go_wp2_with fail
   go_roundw
   case rel => exact ⟨j + 1,by omega,by go_num,Hj⟩
   case measure => simp [intOf]; omega
  | false =>
   have HEK : Hid (¬ (zk = yk ∨ zk = 0)):=Lib.hid fun e => by have:=HU.out.2 e; cases this
   go_wp2_with fail
   clear c0 c1 c2 c3 g0 g1 Hz g3 f0 f1 f2 f3 H2 H3 Hd
   obtain ⟨w23,e23⟩ : ∃ w',(((w22.setCell ⟨sy,0,none⟩ (.int .i64 zk)).setCell ⟨sy,1,none⟩ (.int .i64 za)).setCell ⟨sy,2,none⟩ (.int .i64 zb)).setCell ⟨sy,3,none⟩ (.int .i64 zc) = w':=⟨_,rfl⟩
   rw [e23] at H4 H5 ⊢
   clear e23
   have HN:=Lib.hid (Hg.out.more (w':=w23) (by rw [HZ.out]; exact fun e => HEK.out (.inl e)) (by rw [HZ.out]; exact fun e => HEK.out (.inr e)) (by rw [HZ.out]; exact H5.out))
   have Kr : Hid (LKs M nn (q : Int) r sy w23 ⟨zk,za,zb,zc⟩ (d - 1)):=Lib.hid (by have:=HN.out.2.1; rw [HZ.out] at this; exact this)
   have HSV : Hid (sv = -1):=Lib.hid (by have:=HN.out.1; rw [HZ.out] at this; exact this)
   have Km : Hid (Rr w2 w23 w2.heap.size w4.heap.size b0 cl b1 cs nn M (rS L nn j S)):=Lib.hid (by have:=H4.out; rw [if_neg (by rw [HSV.out]; omega)] at this; exact this)
   have HME : Hid (muK sy w23 < muK sy wr):=Lib.hid HN.out.2.2
   clear HN H4 H5 HSV Hg HZ
   go_roundw
   case rel => exact ⟨_,_,Kr,Km⟩
   case measure => exact HME.out
 obtain rfl : j = L.length:=by omega
 have Hs : ¬ (L.length : Int) < (L.length : Int):=by omega
 obtain ⟨M,S,hrun,FJ,HD⟩:=FS.fd LX.out H9.out Hn.out
 have He:=Lib.hid hrun
 have Hp:=Lib.hid FJ
 have HD0:=Lib.hid HD
 have HLM : Hid (M.length = nn):=Lib.hid (by rw [FJ.lm]; exact H9.out)
 clear hrun FJ HD Hn
 go_wp2_with fail
 clear Hs
 go_loopw [17] (fun iv wr => ∃ (i : Nat),i ≤ nn ∧ iv = .int .i64 i ∧ Hid (FD M S nn Al cl As cs w2.heap.size w4.heap.size w2 i wr)) (fun iv _ => nn - (intOf iv).toNat)
 case atStart => exact ⟨0,Nat.zero_le _,rfl,HD0⟩
 clear HD0
 obtain ⟨i,hi,rfl,HFD⟩:=hrel
 obtain ⟨RN,RI,BR⟩:=HFD.out
 by_cases hlt : i < nn
 ·have hin : (i : Int) < (nn : Int):=by omega
  have hi0 : (0 : Int) ≤ (i : Int):=by omega
  obtain ⟨b0,b1,rfl,rfl,RR⟩:=rr_of RN RI BR (Nat.le_refl _) K0.out (by omega)
  have Ka : i < M.length:=by rw [HLM.out]; exact hlt
  obtain ⟨x,hx⟩ : ∃ x,M[i]? = some x:=⟨_,List.getElem?_eq_getElem Ka⟩
  have K6 : (mixF (dffS S) i M)[i]? = some x:=(zbJ (dffS S) Ka).trans hx
  have hA:=(RR.nat hlt (x:=x) (by rw [List.getD_eq_getElem?_getD,K6]; rfl)).1
  have hgx : M.getD i nd0 = x:=by rw [List.getD_eq_getElem?_getD,hx]; rfl
  obtain ⟨x1,x2,x3,x4⟩:=x
  have d1:=hA.c1; have d2:=hA.c2
  dsimp only at d1 d2
  have HX:=Lib.hid hx
  have HX2:=Lib.hid K6
  have HGX:=Lib.hid hgx
  have H2:=Lib.hid RR
  clear RN RI BR hx K6 hgx hA RR Ka
  by_cases h7 : x1 = 7
  ·subst h7
   obtain ⟨m,em,hm⟩:=dff_look LX.out Hp.out.rw (fun q hq => List.idxOf_lt_length_of_mem ((LX.out.mem q).2 hq)) (q:=i) (by rw [H9.out]; exact hlt) (by rw [HGX.out])
   rw [HGX.out] at em
   rw [H9.out] at hm
   have em : x2 = (m : Int):=em
   subst em
   have hm1 : (m : Int) < (nn : Int):=by omega
   have hm0 : (0 : Int) ≤ (m : Int):=by omega
   obtain ⟨r0,Hf⟩ : ∃ r,S.getD m 0 = r:=⟨_,rfl⟩
   have q0 : wr.cell? ⟨b1,m,none⟩ = some (.int .i64 r0):=by rw [← Hf]; exact H2.out.sc hm
   have f0:=H2.out.fr0 (i * 4 + 1)
   have HV:=Lib.hid Hf
   clear Hf
   go_upto_region 31 with fail
   have RR:=H2.out.putA i HX2.out r0
   have eM : (mixF (dffS S) i M).set i ⟨7,r0,x3,x4⟩ = mixF (dffS S) (i + 1) M:=by
    rw [dff_mix M S HX.out rfl]
    show _ = (mixF (dffS S) i M).set i ⟨7,sA S (m : Int),x3,x4⟩
    unfold sA
    rw [Int.toNat_natCast,HV.out]
   have Hj : Hid (FD M S nn (some ⟨b0,0,none⟩) cl (some ⟨b1,0,none⟩) cs w2.heap.size w4.heap.size w2 (i + 1) (wr.setCell ⟨b0,i * 4 + 1,none⟩ (.int .i64 r0))):=Lib.hid ⟨by rw [← eM]; exact RR.rn,RR.rs,RR.bl⟩
   clear d1 d2 q0 f0 RR H2 eM
   go_wp2_with fail
   go_roundw
   case rel => exact ⟨i + 1,by omega,by go_num,Hj⟩
   case measure => simp [intOf]; omega
  have t1 : (x1 == 7) = false:=by simpa using h7
  have Hj : Hid (FD M S nn (some ⟨b0,0,none⟩) cl (some ⟨b1,0,none⟩) cs w2.heap.size w4.heap.size w2 (i + 1) wr):=Lib.hid ⟨by rw [dff_mix0 M S HX.out h7]; exact H2.out.rn,H2.out.rs,H2.out.bl⟩
  clear H2
  go_wp2_with fail
  go_roundw
  case rel => exact ⟨i + 1,by omega,by go_num,Hj⟩
  case measure => simp [intOf]; omega
 obtain rfl : i = nn:=by omega
 have hin : ¬ (i : Int) < (i : Int):=by omega
 obtain ⟨w5,rfl⟩ : ∃ x,x = wr:=⟨_,rfl⟩
 have eM : mixF (dffS S) i M = M.map (dffS S):=by rw [← HLM.out]; exact zcp _ _
 rw [eM] at RN
 have z6:=z0.on BR
 have h6:=h.on BR
 have lR:=ZR.lt
 have Hc:=ZR.below BR ZR.lt
 have Ho:=BW.trans (BR.mono BW.size)
 have HLO : Hid (w.heap.size ≤ w2.heap.size):=Lib.hid BW.size
 have Kq : Hid (w.heap.size ≤ w4.heap.size):=Lib.hid (Nat.le_trans BW.size K0.out)
 have Hr:=BR.size
 have Hv : Is w5 As i S:=by
  obtain ⟨A,c,e,_,_,hs⟩:=za4 RI
  injection e with e1 e2 e3
  rw [e1]
  exact hs
 have HPI : Hid (∀ p ∈ O,Plc i p.bits):=Lib.hid (by
  have hp:=zcR LX.out
  rw [H9.out] at hp
  exact fun p hp1 y hy => hp y (List.mem_append_right _ (List.mem_flatMap.2 ⟨p,hp1,hy⟩)))
 have Kj:=K0.out
 clear z0 h ZR BW HFD BR eM
 go_upto_region 34 with fail
 refine LexG.region_planU (KB3.ok w.heap.size w.heap.size w.heap.size) [6,9] [0,1,2,3,4,5,8,6,7,9,10,11] (h:=?_)
 dsimp only [LexG.pick,LexG.nth]
 have bd : Below w5.heap.size w5 w5.drew:=(Below.refl _ _).drew
 replace z6:=z6.on bd
 replace h6:=h6.on bd
 replace Hc:=Hc.below bd Hc.lt
 replace Ho:=Below.step Ho bd
 replace Hv:=Hv.on bd
 replace RN:=zam RN bd
 replace RI:=zam RI bd
 obtain ⟨w7,e7⟩ : ∃ w',w5.drew = w':=⟨_,rfl⟩
 rw [e7] at z6 h6 Hc Ho Hv RN RI bd ⊢
 have K7 : w2.heap.size ≤ w7.heap.size:=Nat.le_trans Hr bd.size
 clear e7 bd Hr
 have K4:=fun s : LexG.Wd (KB3 w.heap.size w.heap.size w.heap.size) w7 => (show s.w.cell? ⟨w.heap.size,1,none⟩ = some (Value.slice Ai ni ci) from (zac s.rel.1 1).trans z6.n1)
 have K3:=fun s : LexG.Wd (KB3 w.heap.size w.heap.size w.heap.size) w7 => (show s.w.cell? ⟨w.heap.size,2,none⟩ = some (Value.slice Ao no co) from (zac s.rel.1 2).trans z6.n2)
 refine LexG.lexU_plain 7 (by kernel_rfl) (by kernel_rfl) ?_
 dsimp only [List.take,List.drop]
 repeat go_big_quiet_step (fail)
 refine wpQuiet_nil ?_
 clear K4 K3
 refine LexG.lexU_call (h:=fun K hK => ?_)
 go_simp
 refine (zci h6.o hno (fun p hp => Ks.out p (List.mem_append_right _ hp)) Hv HPI.out).mono ?_
 rintro en w9 ⟨Bo,do',rfl,Hx,swo,b⟩
 replace Hx:=Hx.mono K7
 dsimp only
 have kb:=b.block _ z6.1
 refine hK _ _ ⟨kb,kb,kb⟩ ?_
 clear kb hK K
 replace Hc:=Hc.below b Hc.lt
 replace Ho:=Below.step Ho b
 replace RN:=zam RN b
 replace RI:=zam RI b
 clear b z6 h6 Hv
 refine LexG.lexU_plain 1 (by kernel_rfl) (by kernel_rfl) ?_
 dsimp only [List.take,List.drop]
 repeat go_big_quiet_step (fail)
 refine wpQuiet_nil ?_
 obtain ⟨f0,f1,f2⟩:=Hc.zof0f1f2
 obtain ⟨p0,p1,p2⟩:=Hc.zo3
 refine LexG.lexU_call (h:=fun K hK => ?_)
 go_simp
 have kb : (((w9.setCell ⟨s1,0,none⟩ (.slice Al i cl)).setCell ⟨s1,1,none⟩ (.slice Ai ni ci)).setCell ⟨s1,2,none⟩ (.slice Bo no do')).heap[w.heap.size]? = w9.heap[w.heap.size]?:=by
  rw [Below.heap_setCell _ _ _ _ hn01,Below.heap_setCell _ _ _ _ hn01,Below.heap_setCell _ _ _ _ hn01]
 refine hK _ _ ⟨kb,kb,kb⟩ ?_
 clear kb hK K f0 f1 f2 p0 p1 p2
 have VR:=Hc.p3' (.slice Al i cl) (.slice Ai ni ci) (.slice Bo no do')
 have Kt:=Ho.e3' hws (.slice Al i cl) (.slice Ai ni ci) (.slice Bo no do')
 refine LexG.lexU_plain 2 (by kernel_rfl) (by kernel_rfl) ?_
 dsimp only [List.take,List.drop]
 repeat go_big_quiet_step (fail)
 refine wpQuiet_nil ?_
 refine LexG.lexU_nil ?_
 dsimp only [NoPanic]
 have K5 : s1 < w4.heap.size:=Nat.lt_of_lt_of_le lR Kj
 have Ke:=zak (zak (zak RN lR 0 (.slice Al i cl)) lR 1 (.slice Ai ni ci)) lR 2 (.slice Bo no do')
 have Kf:=zak (zak (zak RI K5 0 (.slice Al i cl)) K5 1 (.slice Ai ni ci)) K5 2 (.slice Bo no do')
 obtain ⟨w10,e10⟩ : ∃ w',((w9.setCell ⟨s1,0,none⟩ (.slice Al i cl)).setCell ⟨s1,1,none⟩ (.slice Ai ni ci)).setCell ⟨s1,2,none⟩ (.slice Bo no do') = w':=⟨_,rfl⟩
 have hkp : ∀ b,w2.heap.size ≤ b → b < w9.heap.size → w10.heap[b]? = w9.heap[b]?:=fun b hb _ => by
  have K9 : b ≠ s1:=by omega
  rw [← e10,Below.heap_setCell _ _ _ _ K9,Below.heap_setCell _ _ _ _ K9,Below.heap_setCell _ _ _ _ K9]
 have Hi : w9.heap.size ≤ w10.heap.size:=by rw [← e10]; simp [World.setCell]
 rw [e10] at VR Kt Ke Kf ⊢
 have Hb:=(Hx.by_ Hi hkp).mono HLO.out
 have HFN : Hid (FdS w.heap.size Ai ni ci no M S I O i (.returned (.tuple #[.agg #[.slice Al i cl,.slice Ai ni ci,.slice Bo no do'],.slice As i cs,.int .i64 0])) w10):=Lib.hid (by
  obtain ⟨A,c,e,sw1,hb1,hs1⟩:=zbj Ke
  injection e with e1 e2 e3
  subst e1 e3
  obtain ⟨A',c',e',sw2,hb2,hs2⟩:=za4 Kf
  injection e' with e1 e2 e3
  subst e1 e3
  have H1:=H0.out.on Kt
  refine ⟨_,_,_,_,_,_,rfl,⟨hs1,H1.i,Hb.ps,H1.si,swo,H1.hn,H1.hs,fun p hp => ?_⟩,sw1,fun b off e => Nat.le_trans HLO.out (hb1 b off e).1,Hb,hs2,fun b off e => Nat.le_trans Kq.out (hb2 b off e).1⟩
  rcases List.mem_append.1 hp with hp | hp
  ·exact H1.hb p (List.mem_append_left _ hp)
  obtain ⟨p0,hp0,rfl⟩:=List.mem_map.1 hp
  unfold outF
  rw [List.length_map]
  exact H1.hb p0 (List.mem_append_right _ hp0))
 clear RN RI Ke Kf Hb hkp Hi e10 Hx Hc Ho
 obtain ⟨p0,p1,p2⟩:=VR.zo3
 go_wp2_with fail
 exact bodyPost_ret (v:=.tuple #[.agg #[.slice Al i cl,.slice Ai ni ci,.slice Bo no do'],.slice As i cs,.int .i64 0]) (by simp [results,Try.results63,go_sem,p0,p1,p2]) rfl ⟨⟨M,S,He.out,Hp.out,HFN.out⟩,Kt⟩
end Go.Proofs.Ytcehklnonhalhaa
