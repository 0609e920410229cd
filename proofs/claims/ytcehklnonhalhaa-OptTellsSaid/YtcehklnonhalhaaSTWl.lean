/-
  What the proofs of OptTells need: Wl Wp.
-/
import Derived.Test.YtcehklnonhalhaaSTWk
import Derived.Test.YtcehklnonhalhaaSTWa
set_option linter.unusedVariables false
namespace Go.Proofs.Ytcehklnonhalhaa
open Go.RowKit
set_option maxRecDepth 4000
theorem own_is {w : World} {g : Nat} {P : List Int} {n : Nat} (h : Own w g 3 (P.flatMap inC)) (hl : P.length = n) : Is w (some ⟨g,0,none⟩) n P:=⟨hl,fun k x hx => ⟨g,0,rfl,h.lt,by
 have e:=zap inC 1 zaC P k 0 (by omega)
 rw [Nat.mul_one,Nat.add_zero] at e
 rw [Nat.zero_add,h.cell k,e,hx]
 rfl⟩⟩
theorem GD.kx {T : Nat → Prop} {w w' : World} {base j : Nat} {R : List Rp} {L : List Pt} (h : GD w base j R L) (hk : Kx T w w') (ht : ∀ b,base ≤ b → ¬ T b) : GD w' base j R L:=fun k r p hk' hr hp => by
 obtain ⟨h1,h2⟩:=h k r p hk' hr hp
 exact ⟨zd8 h1 hk (fun b e => ht b (h1.lt b e).1),h2⟩
theorem GD.kxl {T : Nat → Prop} {w w' : World} {base j top : Nat} {R : List Rp} {L : List Pt} (h : GD w base j R L) (hk : Kx T w w') (hl : ∀ (k : Nat) (r : Rp),R[k]? = some r → ∀ b,(Value.slice r.A r.m r.c).ownBlock = some b → b < top) (ht : ∀ b,b < top → ¬ T b) : GD w' base j R L:=fun k r p hk' hr hp => by
 obtain ⟨h1,h2⟩:=h k r p hk' hr hp
 exact ⟨zd8 h1 hk (fun b e => ht b (hl k r hr b e)),h2⟩
theorem kp_of {N : List Nd} {B : List Bool} {nn j : Nat} {x : Nd} (h : (kpL N B nn)[j]? = some x) : ∃ q,q < nn ∧ x = N.getD q nd0:=by
 have:=List.mem_of_getElem? h
 unfold kpL at this
 obtain ⟨q,hq,rfl⟩:=List.mem_map.1 this
 exact ⟨q,List.mem_range.1 (List.mem_filter.1 hq).1,rfl⟩
def SwH (N : List Nd) (I O : List Pt) (nn ni no s : Nat) (en : Ending) (w' : World) : Prop:=∃ (B : List Bool) (Bk : Option Addr) (k ck : Nat) (Bi : Option Addr) (di : Nat) (Bo : Option Addr) (do' : Nat),en = .returned (.tuple #[.agg #[.slice Bk k ck,.slice Bi ni di,.slice Bo no do'],.int .i64 ((nn : Int) - (k : Int)),.int .i64 0]) ∧ B.length = nn ∧ (∀ p,B.getD p false = true ↔ Rch N (fun p => (p : Int) ∈ zah I ++ zah O) p) ∧ (kpL N B nn).length = k ∧ NtH s w' Bk k ck Bi ni di Bo no do' ((kpL N B nn).map (mvN (plS N B nn nn))) (I.map (outF (plS N B nn nn))) (O.map (outF (plS N B nn nn))) ∧ Sw Bk k ck
set_option maxHeartbeats 8000000 in
theorem ssweep_yesH {An Ai Ao : Option Addr} {nn cn ni ci no co : Nat} {N : List Nd} {I O : List Pt} {w : World} (h : Nt w An nn cn Ai ni ci Ao no co N I O) (sn : Sw An nn cn) (hni : ni ≤ 66) (hno : no ≤ 66) (hb : ∀ p ∈ I ++ O,p.bits.length ≤ 4000) {dd L : List Nat} (lx : LvN N I O dd L) :
  Calls Try.prog 26 #[.agg #[.slice An nn cn,.slice Ai ni ci,.slice Ao no co]] w fun en w' => SwH N I O nn ni no w.heap.size en w' ∧ Below w.heap.size w w':=by
 have HB:=Lib.hid hb
 have LX:=Lib.hid lx
 have Jj:=Lib.hid h.n.1
 have HU : Hid (∀ q,q < nn → Plc nn (zag (N.getD q nd0))):=Lib.hid (zcj (by rw [← Jj.out]; exact LX.out.fm) Jj.out)
 have hnn:=h.hn
 clear hb lx
 go_enter Try.func26,Try.ntmps26
 go_upto_region 1 with fail
 obtain ⟨w1,e_w1,z0,b1⟩:=zmB w [.slice An nn cn,.slice Ai ni ci,.slice Ao no co] 25
 have Kv : w1.heap.size = w.heap.size + 1:=e_w1 ▸ zal w _ rfl
 rw [e_w1]
 clear e_w1
 obtain ⟨s1,hs0⟩ : ∃ s1,w.heap.size + 1 = s1:=⟨_,rfl⟩
 rw [hs0] at Kv ⊢
 obtain ⟨w2,e_w2⟩ : ∃ w',w1.alloc (.cells #[.slice none 0 0,.slice none 0 0,.slice none 0 0] 25) = w':=⟨_,rfl⟩
 have ZR : Own w2 s1 25 [.slice none 0 0,.slice none 0 0,.slice none 0 0]:=by rw [← Kv]; exact e_w2 ▸ Own.made w1 25 [.slice none 0 0,.slice none 0 0,.slice none 0 0]
 have b2 : Below w1.heap.size w1 w2:=e_w2 ▸ zaa _ _
 rw [e_w2]
 clear e_w2 Kv
 replace z0:=z0.on b2
 have BW:=Below.step b1 b2
 replace h:=h.on BW
 clear b1 b2
 have hws : w.heap.size < s1:=by omega
 have hs1w2 : s1 < w2.heap.size:=ZR.lt
 clear hs0
 obtain ⟨c0,c1,c2⟩:=z0.zb3
 go_upto_region 4 with (go_at_call 28; (with_reducible refine (scount_yes h hni hno HB.out LX.out).mono ?_); (rintro en w3 ⟨⟨g,B,rfl,Hf,hg⟩,b⟩; have hw23:=b.size; replace BW:=Below.step BW b; replace ZR:=ZR.below b ZR.lt; replace h:=h.on b; replace z0:=z0.on b; clear b c0 c1 c2))
 have Jn:=Lib.hid Hf
 have hgl:=Hf.1.lt
 clear Hf
 obtain ⟨c0,c1,c2⟩:=z0.zb3
 have hb1 : ∀ p ∈ I ++ O,p.bits.length ≤ 100000:=fun p hp => by have:=HB.out p hp; omega
 go_upto_region 5 with (go_at_call 40; (with_reducible refine (cloneE_as h sn hb1).mono ?_); (rintro en wcl ⟨Bn,dn,Bi,di,Bo,do',s,s2,Ri,Ro,rfl,_,_,_,swi,swo,hs,hw3s,hs2,hrowI,hIlt,hRil,hRin,hGDi,hGIlt,hrowO,hRl,hRn,hGD,b⟩; clear c0 c1 c2))
 have Jo:=Lib.hid BW
 replace h:=h.on b
 replace z0:=z0.on b
 replace ZR:=ZR.below b ZR.lt
 have Hf:=Jn.out.1.below b hgl
 have Hv:=Jn.out.2.1
 obtain ⟨s7,hs7⟩ : ∃ s7,wcl.heap.size = s7:=⟨_,rfl⟩
 obtain ⟨w7,e_w7⟩ : ∃ w',wcl.alloc (.cells #[.slice Bn nn dn,.slice Bi ni di,.slice Bo no do'] 25) = w':=⟨_,rfl⟩
 have ZM : Own w7 wcl.heap.size 25 [.slice Bn nn dn,.slice Bi ni di,.slice Bo no do']:=e_w7 ▸ Own.made wcl 25 [.slice Bn nn dn,.slice Bi ni di,.slice Bo no do']
 have b7 : Below wcl.heap.size wcl w7:=e_w7 ▸ zaa _ _
 rw [e_w7]
 have B37 : Below w3.heap.size w3 w7:=Below.step b b7
 replace h:=h.on b7
 replace z0:=z0.on b7
 replace ZR:=ZR.below b7 ZR.lt
 replace Hf:=Hf.below b7 (Nat.lt_of_lt_of_le hgl b.size)
 have H5:=zam hrowI b7
 have Hg:=hGDi.on b7
 have H4:=zam hrowO b7
 have K4:=hGD.on b7
 have J5:=h.o.1
 have hIl:=h.i.1
 have H7 : ∀ (k : Nat) (r : Rp),Ro[k]? = some r → ∀ b,(Value.slice r.A r.m r.c).ownBlock = some b → b < wcl.heap.size:=fun k r hr b e => by
  have hk : k < no:=by rw [← hRl]; exact (List.getElem?_eq_some_iff.1 hr).1
  obtain ⟨p,hp⟩:=zat J5 hk
  exact ((hGD k r p hk hr hp).1.lt b e).2
 rw [hs7] at ZM hs2 H7 ⊢
 have HGI:=Lib.hid hGIlt
 have HGO:=Lib.hid H7
 have K9:=Lib.hid hRil
 have K8:=Lib.hid hRin
 have K7:=Lib.hid hRl
 have K6:=Lib.hid hRn
 have HIL:=Lib.hid hIl
 have HOL:=Lib.hid J5
 have Jk:=Lib.hid hIlt
 have Ka : Hid (∀ p ∈ I ++ O,Plc nn p.bits):=Lib.hid fun p hp => by
  have h1:=List.all_eq_true.1 LX.out.bits p hp
  unfold zaM at h1
  rw [← Jj.out]
  exact zeb (Bool.and_eq_true_iff.1 h1).2
 clear hGIlt H7 hRil hRin hRl hRn hIl J5 hIlt
 clear e_w7 b b7 hrowI hGDi hrowO hGD hs7 BW
 have Ku : s7 < w7.heap.size:=ZM.lt
 have Hz:=z0.2 0 _ rfl
 have Jg:=Lib.hid H5
 have Jm:=Lib.hid Hg
 have Je:=Lib.hid H4
 have Jl:=Lib.hid K4
 clear H5 Hg H4 K4
 go_upto_region 6 with (go_at_call 53; (with_reducible refine (skept_as h.n hnn Hf Hv).mono ?_); (rintro en w8 ⟨⟨Ak,k,ck,gp,rfl,hK,hkl,hP,hgp⟩,b⟩; clear Hz))
 have Km:=Lib.hid hkl
 have hgpl:=hP.lt
 have Hw:=own_is hP (ze6 N B nn nn)
 have hk1 : k ≤ 100000:=by have:=zcr N B nn; omega
 obtain ⟨K,hKe⟩ : ∃ K,kpL N B nn = K:=⟨_,rfl⟩
 obtain ⟨P,hPe⟩ : ∃ P,plS N B nn nn = P:=⟨_,rfl⟩
 have HKE:=Lib.hid hKe
 have Jh:=Lib.hid hPe
 have HPX : Hid (∀ (j : Nat) (x : Nd),K[j]? = some x → Plc nn (zag x)):=Lib.hid fun j x hx => by
  rw [← hKe] at hx
  obtain ⟨q,hq,rfl⟩:=kp_of hx
  exact HU.out q hq
 rw [hKe] at hK Km
 rw [hPe] at hP Hw
 clear hkl hKe hPe Hf
 have b78:=b
 clear b
 go_wp2_with fail
 go_loopw [38] (fun iv wr => ∃ j : Nat,j ≤ k ∧ iv = .int .i64 j ∧ Hid (wr.ownsRow w7.heap.size 43 4 (.slice Ak k ck) k ((mixF (mvN P) j K).flatMap ndC)) ∧ Hid (Own wr gp 3 (P.flatMap inC)) ∧ Hid (Below w7.heap.size w7 wr)) (fun iv _ => k - (intOf iv).toNat)
 case atStart => exact ⟨0,Nat.zero_le _,rfl,Lib.hid (by rw [ze9]; exact hK),Lib.hid hP,Lib.hid b78⟩
 clear hK hP b78 Hw
 obtain ⟨j,hj,rfl,HK,HP,HB8⟩:=hrel
 by_cases hlt : j < k
 ·have Kz : (j : Int) < (k : Int):=by omega
  have hj0 : (0 : Int) ≤ (j : Int):=by omega
  obtain ⟨A2,c2',e2,_,hoff,hNs⟩:=zbj HK.out
  injection e2 with e2 _ e2'
  subst e2 e2'
  obtain ⟨bk,off,x1,x2,x3,x4,eA,HX,hA⟩:=hNs.nat hlt
  obtain rfl : off = 0:=(hoff bk off eA).2
  subst eA
  rw [Nat.zero_add] at hA
  have a0:=hA.c1; have a1:=hA.c2; have a2:=hA.c3; have a3:=hA.c4
  have H8 : Hid (K[j]? = some ⟨x1,x2,x3,x4⟩):=Lib.hid (by rw [← zbJ (mvN P) (by rw [Km.out]; exact hlt)]; exact HX.out)
  obtain ⟨⟨y1,y2,y3,y4⟩,hy⟩ : ∃ y,mvN P ⟨x1,x2,x3,x4⟩ = y:=⟨_,rfl⟩
  have HY:=Lib.hid hy
  clear hy hoff hNs
  go_upto_region 9 with fail
  obtain ⟨w9,e_w9⟩ : ∃ w',wr.alloc (.cells #[.int .i64 x1,.int .i64 x2,.int .i64 x3,.int .i64 x4] 43) = w':=⟨_,rfl⟩
  have z9 : Own w9 wr.heap.size 43 [.int .i64 x1,.int .i64 x2,.int .i64 x3,.int .i64 x4]:=e_w9 ▸ Own.made wr 43 [.int .i64 x1,.int .i64 x2,.int .i64 x3,.int .i64 x4]
  have b9 : Below wr.heap.size wr w9:=e_w9 ▸ zaa _ _
  rw [e_w9]
  have hk9:=zam HK.out b9
  have Ho:=HP.out.below b9 HP.out.lt
  have BB9:=Below.step HB8.out b9
  have hPl : P.length = nn:=by rw [← Jh.out]; exact ze6 N B nn nn
  have He:=own_is Ho hPl
  have Kg:=(HK.out.lt bk rfl).1
  clear e_w9 b9 a0 a1 a2 a3 hA HK HP HX
  obtain ⟨s9,hs9⟩ : ∃ s9,wr.heap.size = s9:=⟨_,rfl⟩
  rw [hs9] at z9 ⊢
  clear hs9
  have c0 : w9.cell? ⟨s9,0,none⟩ = some (.int .i64 x1):=z9.cell 0
  have c1 : w9.cell? ⟨s9,1,none⟩ = some (.int .i64 x2):=z9.cell 1
  have c2 : w9.cell? ⟨s9,2,none⟩ = some (.int .i64 x3):=z9.cell 2
  have c3 : w9.cell? ⟨s9,3,none⟩ = some (.int .i64 x4):=z9.cell 3
  go_wp2_with fail
  refine (smoved_as He (x:=⟨x1,x2,x3,x4⟩) (HPX.out j _ H8.out) HY.out).mono ?_
  rintro en w10 ⟨rfl,b⟩
  have R0:=zam hk9 b
  have P0:=Ho.below b Ho.lt
  have BB0:=Below.step BB9 b
  clear c0 c1 c2 c3 z9 hk9 Ho BB9 b He
  obtain ⟨A3,c3',e3,_,hoff,hNs⟩:=zbj R0
  injection e3 with e3 _ e3'
  subst e3 e3'
  obtain ⟨bk3,off,v1,v2,v3,v4,eA,_,hA⟩:=hNs.nat hlt
  injection eA with eA
  injection eA with eA eO
  subst eA eO
  rw [Nat.zero_add] at hA
  have n0:=hA.c1; have n1:=hA.c2; have n2:=hA.c3; have n3:=hA.c4
  have f0:=R0.frozenAt (j * 4); have f1:=R0.frozenAt (j * 4 + 1); have f2:=R0.frozenAt (j * 4 + 2); have f3:=R0.frozenAt (j * 4 + 3)
  obtain ⟨cu,hcu,_⟩:=zaJ R0
  have Kf : gp ≠ bk:=zaK P0 hcu (by decide)
  clear hA hNs hoff hcu
  unfold ndA
  go_wp2_with fail
  clear n0 n1 n2 n3 f0 f1 f2 f3
  have R4:=((((R0.stored (j * 4) (.int .i64 y1)).1.stored (j * 4 + 1) (.int .i64 y2)).1.stored (j * 4 + 2) (.int .i64 y3)).1.stored (j * 4 + 3) (.int .i64 y4)).1
  have fp:=zcO (mixF (mvN P) j K) j y1 y2 y3 y4
  rw [fp,← HY.out,← zbK (mvN P) H8.out] at R4
  have P4:=(((P0.apart Kf (j * 4) (.int .i64 y1)).apart Kf (j * 4 + 1) (.int .i64 y2)).apart Kf (j * 4 + 2) (.int .i64 y3)).apart Kf (j * 4 + 3) (.int .i64 y4)
  have BB4:=(((BB0.setCell (p:=⟨bk,j * 4,none⟩) Kg (.int .i64 y1)).setCell (p:=⟨bk,j * 4 + 1,none⟩) Kg (.int .i64 y2)).setCell (p:=⟨bk,j * 4 + 2,none⟩) Kg (.int .i64 y3)).setCell (p:=⟨bk,j * 4 + 3,none⟩) Kg (.int .i64 y4)
  have HR4:=Lib.hid R4
  have HP4:=Lib.hid P4
  have HB4:=Lib.hid BB4
  clear R4 P4 BB4 R0 P0 BB0 fp
  go_roundw
  case rel => exact ⟨j + 1,by omega,by go_num,HR4,HP4,HB4⟩
  case measure => simp [intOf]; omega
 obtain rfl : j = k:=by omega
 have Kz : ¬ (j : Int) < (j : Int):=by omega
 have Hl:=zcp (mvN P) K
 rw [Km.out] at Hl
 rw [Hl] at HK
 clear Hl
 have BB:=HB8.out
 have Hb:=ZM.below BB Ku
 have zc0:=Hb.cell 0
 have zf0:=Hb.free 0
 have HPl : Hid (P.length = nn):=Lib.hid (by rw [← Jh.out]; exact ze6 N B nn nn)
 go_upto_region 12 with fail
 have Kl:=Hb.put 0 (.slice Ak j ck)
 have P2:=HP.out.apart (zaK HP.out Hb (by decide)) 0 (.slice Ak j ck)
 have K2:=zaI HK.out Hb (by decide) 0 (.slice Ak j ck)
 have J7:=zaI (zam Jg.out BB) Hb (by decide) 0 (.slice Ak j ck)
 have Hk:=(Jm.out.on BB).other Hb (by decide) 0 (.slice Ak j ck)
 have J6:=zaI (zam Je.out BB) Hb (by decide) 0 (.slice Ak j ck)
 have Hj:=(Jl.out.on BB).other Hb (by decide) 0 (.slice Ak j ck)
 have hszr:=BB.size
 have J9:=(ZR.below BB (by omega)).apart (show s1 ≠ s7 by omega) 0 (.slice Ak j ck)
 have Ja:=(z0.low (by omega) BB).apart (show w.heap.size ≠ s7 by omega) 0 (.slice Ak j ck)
 have Jq:=((Jo.out.trans (B37.mono (by omega))).trans (BB.mono (by have:=B37.size; omega))).setCell (p:=⟨s7,0,none⟩) (show w.heap.size ≤ s7 by omega) (.slice Ak j ck)
 have Ks : (wr.setCell ⟨s7,0,none⟩ (.slice Ak j ck)).heap.size = wr.heap.size:=by simp [World.setCell]
 obtain ⟨w12,e12⟩ : ∃ w',wr.setCell ⟨s7,0,none⟩ (.slice Ak j ck) = w':=⟨_,rfl⟩
 rw [e12] at Kl P2 K2 J7 Hk J6 Hj Ks J9 Ja Jq ⊢
 have Jb:=Lib.hid J9
 have Jd:=Lib.hid Ja
 have Jp:=Lib.hid Jq
 clear J9 Ja Jq
 have c1 : w12.cell? ⟨s7,1,none⟩ = some (.slice Bi ni di):=Kl.cell 1
 have c2 : w12.cell? ⟨s7,2,none⟩ = some (.slice Bo no do'):=Kl.cell 2
 have HP2:=Lib.hid P2
 have HK2:=Lib.hid K2
 have hw12 : w7.heap.size ≤ w12.heap.size:=by omega
 have hgp12:=P2.lt
 obtain ⟨TP,hTP⟩ : ∃ TP : Nat → Prop,(fun b => s ≤ b ∧ b < s7) = TP:=⟨_,rfl⟩
 clear zc0 zf0 P2 K2 HP HK
 go_wp2_with fail
 clear c1 c2
 go_loopw [57] (fun i wt => ∃ t : Nat,t ≤ 2 ∧ i = .int .i64 t ∧ Hid (wt.ownsRow s 41 2 (.slice Bi ni di) ni (Ri.flatMap ptC)) ∧ Hid (GD wt s ni Ri (if t = 0 then I else I.map (outF P))) ∧ Hid (wt.ownsRow s2 41 2 (.slice Bo no do') no (Ro.flatMap ptC)) ∧ Hid (GD wt s2 no Ro (if t ≤ 1 then O else O.map (outF P))) ∧ Hid (Kx TP w12 wt)) (fun i _ => 2 - (intOf i).toNat)
 case atStart => exact ⟨0,by omega,rfl,Lib.hid J7,Lib.hid (by rw [if_pos rfl]; exact Hk),Lib.hid J6,Lib.hid (by rw [if_pos (by omega)]; exact Hj),Lib.hid (Kx.refl _ _)⟩
 clear J7 Hk J6 Hj
 obtain ⟨t,ht,rfl,HRI,HGDI,H0,HGDO,H8⟩:=hrel
 obtain ⟨wt,rfl⟩ : ∃ x,x = wr:=⟨_,rfl⟩
 have H6 : ∀ b,TP b → s ≤ b ∧ b < s7:=fun b hb => by rw [← hTP] at hb; exact hb
 have hwt12:=H8.out.size
 have hs7t : s7 < wt.heap.size:=by omega
 by_cases hlt2 : t < 2
 ·obtain ⟨Ax,nx,dx,Rx,Lx,bx,topx,hidx,HROWX,HGDX,HRXL,HRXN,HLX,HBX,HPLX,HGX,hbx,htopx,FINX⟩ : ∃ (Ax : Option Addr) (nx dx : Nat) (Rx : List Rp) (Lx : List Pt) (bx topx : Nat),(∀ w : World,(Instr.index 91 (.agg #[.slice Bi ni di,.slice Bo no do']) (.int .i64 (t : Int))).run Try.prog w = .ok (.slice Ax nx dx) w) ∧ Hid (wt.ownsRow bx 41 2 (.slice Ax nx dx) nx (Rx.flatMap ptC)) ∧ Hid (GD wt bx nx Rx Lx) ∧ Hid (Rx.length = nx) ∧ Hid (∀ (k : Nat) (r : Rp) (p : Pt),Rx[k]? = some r → Lx[k]? = some p → r.name = p.name) ∧ Hid (Lx.length = nx) ∧ Hid (∀ p ∈ Lx,p.bits.length ≤ 4000) ∧ Hid (∀ p ∈ Lx,Plc nn p.bits) ∧ Hid (∀ (k : Nat) (r : Rp),Rx[k]? = some r → ∀ b,(Value.slice r.A r.m r.c).ownBlock = some b → b < topx) ∧ s ≤ bx ∧ topx ≤ s7 ∧ Hid (nx ≤ 66 ∧ ∀ w' : World,w'.ownsRow bx 41 2 (.slice Ax nx dx) nx (Rx.flatMap ptC) → GD w' bx nx Rx (Lx.map (outF P)) → Kx (fun b => bx ≤ b ∧ b < topx) wt w' → Hid (w'.ownsRow s 41 2 (.slice Bi ni di) ni (Ri.flatMap ptC)) ∧ Hid (GD w' s ni Ri (if t + 1 = 0 then I else I.map (outF P))) ∧ Hid (w'.ownsRow s2 41 2 (.slice Bo no do') no (Ro.flatMap ptC)) ∧ Hid (GD w' s2 no Ro (if t + 1 ≤ 1 then O else O.map (outF P))) ∧ Hid (Kx TP w12 w')):=by
   rcases (show t = 0 ∨ t = 1 by omega) with rfl | rfl
   ·rw [if_pos rfl] at HGDI
    rw [if_pos (by omega)] at HGDO
    refine ⟨Bi,ni,di,Ri,I,s,s2,fun w => pdx0 _ _ _ _ _ _ w,HRI,HGDI,K9,K8,HIL,Lib.hid fun p hp => HB.out p (List.mem_append_left _ hp),Lib.hid fun p hp => Ka.out p (List.mem_append_left _ hp),HGI,Nat.le_refl _,hs2,Lib.hid ⟨hni,fun w' h1 h2 h3 => ⟨Lib.hid h1,Lib.hid (by rw [if_neg (by omega)]; exact h2),Lib.hid (zd8 H0.out h3 (fun b e ht => ?_)),Lib.hid (by rw [if_pos (by omega)]; exact HGDO.out.kx h3 (fun b hb ht => by have ht : s ≤ b ∧ b < s2:=ht; omega)),Lib.hid (H8.out.trans (h3.mono fun b hb => ?_))⟩⟩⟩
    ·have:=(H0.out.lt b e).1
     have ht : s ≤ b ∧ b < s2:=ht
     omega
    rw [← hTP]
    exact ⟨hb.1,by omega⟩
   rw [if_neg (by omega)] at HGDI
   rw [if_pos (by omega)] at HGDO
   refine ⟨Bo,no,do',Ro,O,s2,s7,fun w => pdx1 _ _ _ _ _ _ w,H0,HGDO,K7,K6,HOL,Lib.hid fun p hp => HB.out p (List.mem_append_right _ hp),Lib.hid fun p hp => Ka.out p (List.mem_append_right _ hp),HGO,hs,Nat.le_refl _,Lib.hid ⟨hno,fun w' h1 h2 h3 => ⟨Lib.hid (zd8 HRI.out h3 (fun b e ht => ?_)),Lib.hid (by rw [if_neg (by omega)]; exact GD.kxl HGDI.out h3 HGI.out (fun b hb ht => by have ht : s2 ≤ b ∧ b < s7:=ht; omega)),Lib.hid h1,Lib.hid (by rw [if_neg (by omega)]; exact h2),Lib.hid (H8.out.trans (h3.mono fun b hb => ?_))⟩⟩⟩
   ·have:=Jk.out b e
    have ht : s2 ≤ b ∧ b < s7:=ht
    omega
   rw [← hTP]
   exact ⟨by omega,hb.2⟩
  obtain ⟨TX,hTX⟩ : ∃ TX : Nat → Prop,(fun b => bx ≤ b ∧ b < topx) = TX:=⟨_,rfl⟩
  have hnx:=FINX.out.1
  have htopw : topx < wt.heap.size:=by omega
  have J0 : ∀ b,TX b → b < s7:=fun b hb => by
   rw [← hTX] at hb
   have hb : bx ≤ b ∧ b < topx:=hb
   omega
  have HPt : Hid (Own wt gp 3 (P.flatMap inC)):=Lib.hid ((H8.out.2 gp (by omega) (fun e => by have:=H6 gp e; omega)).trans HP2.out)
  have hgt : gp < wt.heap.size:=by omega
  have J2 : ¬ TX gp:=fun e => by have:=J0 gp e; omega
  clear HRI HGDI H0 HGDO
  have hin:=hidx
  go_wp2_with fail
  clear hin
  go_loopw [62] (fun i wr => ∃ j : Nat,j ≤ nx ∧ i = .int .i64 j ∧ Hid (wr.ownsRow bx 41 2 (.slice Ax nx dx) nx (Rx.flatMap ptC)) ∧ Hid (GD wr bx nx Rx (mixF (outF P) j Lx)) ∧ Hid (Kx TX wt wr)) (fun i _ => nx - (intOf i).toNat)
  case atStart => exact ⟨0,Nat.zero_le _,rfl,HROWX,Lib.hid (by rw [ze9]; exact HGDX.out),Lib.hid (Kx.refl _ _)⟩
  clear HROWX HGDX hidx
  obtain ⟨j,hj,rfl,H0,H9,BR⟩:=hrel
  by_cases hlt : j < nx
  ·obtain ⟨⟨nm,bs⟩,hp⟩:=zat HLX.out hlt
   obtain ⟨⟨rn,rA,rm,rc⟩,hr⟩:=zat HRXL.out hlt
   obtain rfl : rn = nm:=HRXN.out j _ _ hr hp
   have Ji:=Lib.hid hp
   have HR:=Lib.hid hr
   have Ke : (mixF (outF P) j Lx)[j]? = some ⟨rn,bs⟩:=by rw [zbJ _ (by rw [HLX.out]; exact hlt)]; exact hp
   obtain ⟨g1,_⟩:=H9.out j _ _ hlt hr Ke
   dsimp only at g1
   have J4 : bs.length = rm:=by have:=g1.1; rw [zas inC 1 zaC] at this; omega
   have Kn:=Lib.hid J4
   have hrm : rm ≤ 4000:=by rw [← J4]; exact HBX.out _ (List.mem_of_getElem? hp)
   have HG9 : Hid (∀ g,rA = some ⟨g,0,none⟩ → g < topx):=Lib.hid fun g e => HGX.out j _ hr g (by rw [e]; rfl)
   have J3:=BR.out.size
   have Kr : topx < wr.heap.size:=by omega
   have J1 : gp < wr.heap.size:=by omega
   obtain ⟨A0,c0,q0,_,hl0,Hz⟩:=zaP H0.out
   injection q0 with qa qb qc
   subst qa qc
   obtain ⟨gq,eA,hg,k1⟩:=Hz (j * 2 + 0) (.string rn) (by rw [zap ptC 2 zaL Rx j 0 (by omega),hr]; rfl)
   obtain ⟨gq',eA',_,k2⟩:=Hz (j * 2 + 1) (.slice rA rm rc) (by rw [zap ptC 2 zaL Rx j 1 (by omega),hr]; rfl)
   subst eA
   injection eA' with eA'
   injection eA' with eA'
   subst eA'
   rw [Nat.add_zero] at k1
   have Kz : (j : Int) < (nx : Int):=by omega
   have hj0 : (0 : Int) ≤ (j : Int):=by omega
   clear hp hr Ke g1 J4 Hz hl0
   go_upto_region 18 with fail
   obtain ⟨w9,e_w9,z9,b9⟩:=zmB wr [.string rn,.slice rA rm rc] 41
   rw [e_w9]
   have K0:=Lib.hid (zam H0.out b9)
   have K3:=Lib.hid (H9.out.on b9)
   have BR9:=Lib.hid (BR.out.step b9)
   obtain ⟨s9,hs9⟩ : ∃ s9,wr.heap.size = s9:=⟨_,rfl⟩
   rw [hs9] at z9 Kr J1 ⊢
   clear e_w9 k1 k2 b9 hs9 H0 H9 BR J3
   have c1 : _ = some (Value.slice rA rm rc):=z9.2 1 _ rfl
   have hz9:=Lib.hid z9
   go_wp2_with fail
   clear c1
   go_loopw [69] (fun i wr => ∃ k : Nat,k ≤ rm ∧ i = .int .i64 k ∧ Hid (wr.ownsRow bx 41 2 (.slice (some ⟨gq,0,none⟩) nx dx) nx (Rx.flatMap ptC)) ∧ Hid (GD wr bx nx Rx ((mixF (outF P) j Lx).set j ⟨rn,mixF (sA P) k bs⟩)) ∧ Hid (Bx wr s9 [.string rn,.slice rA rm rc]) ∧ Hid (Kx TX wt wr)) (fun i _ => rm - (intOf i).toNat)
   case atStart =>
    refine ⟨0,Nat.zero_le _,rfl,K0,?_,hz9,BR9⟩
    rw [ze9]
    have Ke : (mixF (outF P) j Lx)[j]? = some ⟨rn,bs⟩:=by rw [zbJ _ (by rw [HLX.out]; exact hlt)]; exact Ji.out
    obtain ⟨h1,h2⟩:=List.getElem?_eq_some_iff.1 Ke
    rw [← h2,List.set_getElem_self]
    exact K3
   clear K0 K3 hz9 z9 BR9
   obtain ⟨k,hk,rfl,H0,H9,K5,BR⟩:=hrel
   by_cases hkt : k < rm
   ·have Ha : ((mixF (outF P) j Lx).set j ⟨rn,mixF (sA P) k bs⟩)[j]? = some ⟨rn,mixF (sA P) k bs⟩:=List.getElem?_set_self (by rw [zdB,HLX.out]; exact hlt)
    obtain ⟨j1,_⟩:=H9.out j _ _ hlt HR.out Ha
    dsimp only at j1
    obtain ⟨g0,rfl,hgs,_⟩ : ∃ g,rA = some ⟨g,0,none⟩ ∧ bx ≤ g ∧ g < wr.heap.size:=by
     rcases row_own j1 with ⟨_,e,_⟩ | h
     ·omega
     exact h
    have hg9 : g0 < topx:=HG9.out g0 rfl
    obtain ⟨x,hx⟩ : ∃ x,bs[k]? = some x:=⟨_,List.getElem?_eq_getElem (by rw [Kn.out]; exact hkt)⟩
    obtain ⟨m,rfl,hm⟩:=HPLX.out _ (List.mem_of_getElem? Ji.out) x (List.mem_of_getElem? hx)
    have a0 : wr.cell? ⟨g0,k,none⟩ = some (Value.int .i64 (m : Int)):=(j1.cellAt k (by omega)).trans (by
     have e:=zap inC 1 zaC (mixF (sA P) k bs) k 0 (by omega)
     rw [Nat.mul_one,Nat.add_zero] at e
     rw [e,zbJ _ (by rw [Kn.out]; exact hkt),hx]
     rfl)
    have OPw : Own wr gp 3 (P.flatMap inC):=(BR.out.2 gp hgt J2).trans HPt.out
    obtain ⟨b1,off1,eB,iB⟩:=(own_is OPw HPl.out).iat hm
    injection eB with eB
    injection eB with eB1 eB2
    subst eB1 eB2
    rw [Nat.zero_add] at iB
    obtain ⟨sv,hsv⟩ : ∃ sv,P.getD m 0 = sv:=⟨_,rfl⟩
    rw [hsv] at iB
    have HSV : Hid (sA P (m : Int) = sv):=Lib.hid (by rw [zaS]; exact hsv)
    have HXb:=Lib.hid hx
    have hkn : (k : Int) < (rm : Int):=by omega
    have hk0 : (0 : Int) ≤ (k : Int):=by omega
    have hm1 : (m : Int) < (nn : Int):=by omega
    have hm0 : (0 : Int) ≤ (m : Int):=by omega
    clear hsv hx OPw
    go_upto_region 21 with fail
    have Ho : gp ≠ g0:=by omega
    have J8 : s9 ≠ g0:=by omega
    refine LexG.region_plan (KB3.ok gp s9 s9) 0 [0,1,2,3,4,5,6,7,8] (h:=?_)
    dsimp only [LexG.pick,LexG.nth]
    have bd : Below wr.heap.size wr wr.drew:=(Below.refl _ _).drew
    replace iB:=iB.on bd
    replace H0:=Lib.hid (zam H0.out bd)
    replace H9:=Lib.hid (H9.out.on bd)
    replace K5:=Lib.hid (K5.out.on bd)
    replace j1:=zam j1 bd
    replace BR:=Lib.hid (BR.out.step bd)
    obtain ⟨w4,e4⟩ : ∃ w',wr.drew = w':=⟨_,rfl⟩
    rw [e4] at iB H0 H9 K5 j1 BR ⊢
    clear e4 bd a0
    have Kq:=fun s : LexG.Wd (KB3 gp s9 s9) w4 => (show s.w.cell? ⟨s9,1,none⟩ = some (Value.slice (some ⟨g0,0,none⟩) rm rc) from (zac s.rel.2.1 1).trans (K5.out.2 1 _ rfl))
    have Kp:=fun s : LexG.Wd (KB3 gp s9 s9) w4 => (show s.w.cell? ⟨gp,m,none⟩ = some (Value.int .i64 sv) from (zac s.rel.1 m).trans iB.2)
    refine LexG.lex_plain 8 (by kernel_rfl) ?_
    dsimp only [List.take,List.drop]
    repeat go_big_quiet_step (fail)
    refine wpQuiet_nil ?_
    clear Kq Kp
    have a1 : w4.cell? ⟨g0,k,none⟩ = some (Value.int .i64 (m : Int)):=(j1.cellAt k (by omega)).trans (by
     have e:=zap inC 1 zaC (mixF (sA P) k bs) k 0 (by omega)
     rw [Nat.mul_one,Nat.add_zero] at e
     rw [e,zbJ _ (by rw [Kn.out]; exact hkt),HXb.out]
     rfl)
    have f1:=j1.frozenAt k
    refine LexG.lex_call (h:=fun K hK => ?_)
    go_simp
    clear a1 f1
    refine hK _ _ (KB3.set w4 Ho J8 J8 k (.int .i64 sv)) ?_
    clear hK K
    obtain ⟨cu,hcu,_⟩:=zaJ j1
    have Jf:=Lib.hid (zaI H0.out hcu (by decide) k (.int .i64 sv))
    have Ha : ((mixF (outF P) j Lx).set j ⟨rn,mixF (sA P) k bs⟩)[j]? = some ⟨rn,mixF (sA P) k bs⟩:=List.getElem?_set_self (by rw [zdB,HLX.out]; exact hlt)
    have K1:=H9.out.put (i:=k) hlt HR.out Ha rfl sv
    rw [List.set_set] at K1
    dsimp only at K1
    rw [← HSV.out,← zbK (sA P) HXb.out,HSV.out] at K1
    have Hc:=Lib.hid K1
    have Jc:=Lib.hid (K5.out.apart J8 k (.int .i64 sv))
    have BR':=Lib.hid (BR.out.set (g:=g0) (by rw [← hTX]; exact ⟨hgs,hg9⟩) k (.int .i64 sv))
    clear K1 Ha
    refine LexG.lex_nil ?_
    dsimp only [NoPanic]
    go_wp2_with fail
    go_roundw
    case rel => exact ⟨k + 1,by omega,by go_num,Jf,Hc,Jc,BR'⟩
    case measure => simp [intOf]; omega
   obtain rfl : k = rm:=by omega
   have hkn : ¬ (k : Int) < (k : Int):=by omega
   have Hc : Hid (GD wr bx nx Rx (mixF (outF P) (j + 1) Lx)):=Lib.hid (by
    have e:=zcp (sA P) bs
    rw [Kn.out] at e
    rw [zbK (outF P) Ji.out]
    have:=H9.out
    rw [e] at this
    exact this)
   have Hd:=Lib.hid (And.intro H0 BR)
   clear H0 BR
   go_wp2_with fail
   go_roundw
   case rel => first
    | exact ⟨j + 1,by omega,by go_num,Hd.out.1,Hc,Hd.out.2⟩
    | exact ⟨_,_,_,.int .i64 ((j : Int) + 1),⟨j + 1,by omega,by go_num,Hd.out.1,Hc,Hd.out.2⟩,rfl,rfl,rfl,rfl⟩
   case measure => simp [intOf]; omega
  obtain rfl : j = nx:=by omega
  have Kz : ¬ (j : Int) < (j : Int):=by omega
  have hgd : GD wr bx j Rx (Lx.map (outF P)):=by
   have:=H9.out
   rw [← zcp (outF P) Lx,HLX.out]
   exact this
  have FF:=FINX.out.2 wr H0.out hgd (by rw [hTX]; exact BR.out)
  have Kb:=Lib.hid FF
  clear FF hgd
  go_wp2_with fail
  go_roundw
  case rel => first
   | exact ⟨t + 1,by omega,by go_num,Kb.out.1,Kb.out.2.1,Kb.out.2.2.1,Kb.out.2.2.2.1,Kb.out.2.2.2.2⟩
  case measure => simp [intOf]; omega
 rw [if_neg (by omega)] at HGDI HGDO
 have hge : ¬ (t : Int) < 2:=by omega
 have kx : ∀ b,b < w12.heap.size → (b < s ∨ s7 ≤ b) → wt.heap[b]? = w12.heap[b]?:=fun b h1 h2 => H8.out.2 b h1 (fun e => by have:=H6 b e; omega)
 have H1 : s1 < s:=by omega
 have H2 : s1 < s2:=by omega
 have Hh : s1 < w7.heap.size:=by omega
 have Hi : s7 ≠ s1:=by omega
 have H3 : w.heap.size ≠ s1:=by omega
 have Hn : Own wt s7 25 [.slice Ak j ck,.slice Bi ni di,.slice Bo no do']:=(kx s7 (by omega) (.inr (Nat.le_refl _))).trans Kl
 have Hm : Own wt s1 25 [.slice none 0 0,.slice none 0 0,.slice none 0 0]:=(kx s1 (by omega) (.inl H1)).trans Jb.out
 have Kd : Bx wt w.heap.size [.slice An nn cn,.slice Ai ni ci,.slice Ao no co]:=⟨by omega,fun i u hu => (zac (kx w.heap.size (by omega) (.inl (by omega))) i).trans (Jd.out.2 i u hu)⟩
 have Kt:=zd8 HK2.out H8.out (fun b e ht => by
  have h1:=(HK2.out.lt b e).1
  have:=H6 b ht
  omega)
 have Kc:=Jp.out.trans (H8.out.below (B:=w.heap.size) (by omega) (fun x hx => by have:=H6 x hx; omega))
 have Ki:=HRI.out
 have Kh:=H0.out
 have Kk:=HGDI.out
 have Kj:=HGDO.out
 have hw : IntKind.i64.wrap ((nn : Int) - (j : Int)) = (nn : Int) - (j : Int):=by rw [IntKind.wrap_i64]; omega
 clear HRI HGDI H0 HGDO H8 kx H6
 go_upto_region 25 with fail
 refine LexG.region_plan (KB3.ok s7 w.heap.size w.heap.size) 0 [0,1,2,3,4,5,6,7,8,9] (h:=?_)
 dsimp only [LexG.pick,LexG.nth]
 have bd : Below wt.heap.size wt wt.drew:=(Below.refl _ _).drew
 replace Hn:=Hn.below bd Hn.lt
 replace Hm:=Hm.below bd Hm.lt
 replace Kd:=Kd.on bd
 replace Kt:=zam Kt bd
 replace Ki:=zam Ki bd
 replace Kh:=zam Kh bd
 replace Kk:=Kk.on bd
 replace Kj:=Kj.on bd
 replace Kc:=Below.step Kc bd
 obtain ⟨w4,e4⟩ : ∃ w',wt.drew = w':=⟨_,rfl⟩
 rw [e4] at Hn Hm Kd Kt Ki Kh Kk Kj Kc ⊢
 clear e4 bd
 have lf0:=fun s : LexG.Wd (KB3 s7 w.heap.size w.heap.size) w4 => (show s.w.cell? ⟨s7,0,none⟩ = some (Value.slice Ak j ck) from (zac s.rel.1 0).trans (Hn.cell 0))
 have Kq:=fun s : LexG.Wd (KB3 s7 w.heap.size w.heap.size) w4 => (show s.w.cell? ⟨s7,1,none⟩ = some (Value.slice Bi ni di) from (zac s.rel.1 1).trans (Hn.cell 1))
 have Kp:=fun s : LexG.Wd (KB3 s7 w.heap.size w.heap.size) w4 => (show s.w.cell? ⟨s7,2,none⟩ = some (Value.slice Bo no do') from (zac s.rel.1 2).trans (Hn.cell 2))
 have lf3:=fun s : LexG.Wd (KB3 s7 w.heap.size w.heap.size) w4 => (show s.w.cell? ⟨w.heap.size,0,none⟩ = some (Value.slice An nn cn) from (zac s.rel.2.1 0).trans (Kd.2 0 _ rfl))
 refine LexG.lex_plain 7 (by kernel_rfl) ?_
 dsimp only [List.take,List.drop]
 repeat go_big_quiet_step (fail)
 refine wpQuiet_nil ?_
 clear lf0 Kq Kp lf3
 obtain ⟨c0,c1,c2⟩:=Hm.zo3
 obtain ⟨f0,f1,f2⟩:=Hm.zof0f1f2
 refine LexG.lex_call (by kernel_rfl) (by kernel_rfl) (fun KQ hK => ?_)
 go_simp
 clear c0 c1 c2 f0 f1 f2
 have kb:=(KB3.ok s7 w.heap.size w.heap.size).trans _ _ _ ((KB3.ok s7 w.heap.size w.heap.size).trans _ _ _ (KB3.set w4 Hi H3 H3 0 (.slice Ak j ck)) (KB3.set _ Hi H3 H3 1 (.slice Bi ni di))) (KB3.set _ Hi H3 H3 2 (.slice Bo no do'))
 refine hK _ _ kb ?_
 clear hK KQ kb
 have VR:=Hm.p3' (.slice Ak j ck) (.slice Bi ni di) (.slice Bo no do')
 obtain ⟨q0,q1,q2⟩:=VR.zo3
 have Hq:=zak (zak (zak Kt Hh 0 (.slice Ak j ck)) Hh 1 (.slice Bi ni di)) Hh 2 (.slice Bo no do')
 have Hr:=zak (zak (zak Ki H1 0 (.slice Ak j ck)) H1 1 (.slice Bi ni di)) H1 2 (.slice Bo no do')
 have Hp:=zak (zak (zak Kh H2 0 (.slice Ak j ck)) H2 1 (.slice Bi ni di)) H2 2 (.slice Bo no do')
 have Hy:=((Kk.keepS H1 0 (.slice Ak j ck)).keepS H1 1 (.slice Bi ni di)).keepS H1 2 (.slice Bo no do')
 have Hx:=((Kj.keepS H2 0 (.slice Ak j ck)).keepS H2 1 (.slice Bi ni di)).keepS H2 2 (.slice Bo no do')
 have hle : w.heap.size ≤ s1:=by omega
 have BW6:=Kc.e3' hle (.slice Ak j ck) (.slice Bi ni di) (.slice Bo no do')
 have Ko : ∀ {R : List Rp} {L : List Pt},(∀ (k : Nat) (r : Rp) (p : Pt),R[k]? = some r → L[k]? = some p → r.name = p.name) → ∀ (k : Nat) (r : Rp) (p : Pt),R[k]? = some r → (L.map (outF P))[k]? = some p → r.name = p.name:=fun {R L} hn k r q hr hq => by
  rw [List.getElem?_map] at hq
  cases hq0 : L[k]? with
  | none => rw [hq0] at hq; cases hq
  | some q0 =>
   rw [hq0] at hq
   injection hq with hq
   rw [← hq]
   exact hn k r q0 hr hq0
 have Ky:=Hy.psH Hr K9.out (by rw [List.length_map]; exact HIL.out) (Ko K8.out)
 have Kw:=Hx.psH Hp K7.out (by rw [List.length_map]; exact HOL.out) (Ko K6.out)
 obtain ⟨A2,cc2,e2,swk,hA2,N2⟩:=zbj Hq
 injection e2 with e2 _ e2'
 subst e2 e2'
 have Hu : w.heap.size ≤ w7.heap.size:=by omega
 have Ht : w.heap.size ≤ s:=by omega
 have Hs : w.heap.size ≤ s2:=by omega
 have HNT : Hid (NtH w.heap.size (((w4.setCell ⟨s1,0,none⟩ (.slice Ak j ck)).setCell ⟨s1,1,none⟩ (.slice Bi ni di)).setCell ⟨s1,2,none⟩ (.slice Bo no do')) Ak j ck Bi ni di Bo no do' (K.map (mvN P)) (I.map (outF P)) (O.map (outF P))):=Lib.hid ⟨⟨N2,Ky.ps,Kw.ps,swi,swo,hk1,h.hs,fun q hq => by
  rw [← List.map_append] at hq
  obtain ⟨q0,hq0,rfl⟩:=List.mem_map.1 hq
  unfold outF
  rw [List.length_map]
  exact h.hb q0 hq0⟩,fun b off e => Nat.le_trans Hu (hA2 b off e).1,Ky.mono Ht,Kw.mono Hs⟩
 have HBW:=Lib.hid BW6
 clear hA2 Hu Ht Hs BW6 Kw Ky Hy Hx Hr Hp Hq N2 Kc VR Ko
 refine LexG.lex_plain 2 (by kernel_rfl) ?_
 dsimp only [List.take,List.drop]
 repeat go_big_quiet_step (fail)
 refine wpQuiet_nil ?_
 refine LexG.lex_nil ?_
 dsimp only [NoPanic]
 go_wp2_with fail
 refine bodyPost_ret (v:=.tuple #[.agg #[.slice Ak j ck,.slice Bi ni di,.slice Bo no do'],.int .i64 ((nn : Int) - (j : Int)),.int .i64 0]) (by simp [results,Try.results26,go_sem,q0,q1,q2]) rfl ?_
 exact ⟨by
  unfold SwH
  rw [← Jh.out,← HKE.out] at HNT
  exact ⟨B,Ak,j,ck,Bi,di,Bo,do',rfl,Hv,Jn.out.2.2,by rw [HKE.out]; exact Km.out,HNT.out,swk⟩,HBW.out⟩
set_option maxRecDepth 4000
theorem uses_7 {x : Nd} (h : x.k = 7) : zag x = [x.a]:=by unfold zag zau; rw [h]; rfl
theorem zc9 {x : Nd} (h : x.k = 0 ∨ x.k = 1) : zag x = []:=by unfold zag zau; rcases h with h | h <;> rw [h] <;> rfl
theorem mv_k (P : List Int) (x : Nd) : (mvN P x).k = x.k:=by unfold mvN; (repeat' split) <;> rfl
theorem mv_kd {n : Int} {x : Nd} (hf : zaf n x = true) : x.k = 0 ∨ x.k = 1 ∨ x.k = 2 ∨ x.k = 3 ∨ x.k = 4 ∨ x.k = 5 ∨ x.k = 6 ∨ x.k = 7:=by
 unfold zaf za8 at hf
 simp only [Bool.and_eq_true,decide_eq_true_eq] at hf
 omega
theorem mv_uses {n : Int} (P : List Int) {x : Nd} (hf : zaf n x = true) : zag (mvN P x) = (zag x).map (sA P):=by
 rcases mv_kd hf with h | h | h | h | h | h | h | h
 ·rw [zc9 (x:=mvN P x) (by rw [mv_k]; omega),zc9 (x:=x) (by omega)]; rfl
 ·rw [zc9 (x:=mvN P x) (by rw [mv_k]; omega),zc9 (x:=x) (by omega)]; rfl
 ·rw [zbA (x:=mvN P x) (by rw [mv_k]; exact h),zbA h]; unfold mvN; rw [if_pos (by omega)]; rfl
 ·rw [zay (x:=mvN P x) (by rw [mv_k]; omega),zay (by omega)]; unfold mvN; rw [if_neg (by omega),if_pos (by omega)]; rfl
 ·rw [zay (x:=mvN P x) (by rw [mv_k]; omega),zay (by omega)]; unfold mvN; rw [if_neg (by omega),if_pos (by omega)]; rfl
 ·rw [zay (x:=mvN P x) (by rw [mv_k]; omega),zay (by omega)]; unfold mvN; rw [if_neg (by omega),if_pos (by omega)]; rfl
 ·rw [zaN (x:=mvN P x) (by rw [mv_k]; exact h),zaN h]; unfold mvN; rw [if_neg (by omega),if_neg (by omega),if_pos h]; rfl
 rw [uses_7 (x:=mvN P x) (by rw [mv_k]; exact h),uses_7 h]; unfold mvN; rw [if_pos (by omega)]; rfl
theorem mv_need {n : Int} (P : List Int) {x : Nd} (hf : zaf n x = true) : za0 (mvN P x) = if x.k = 7 then [] else (zag x).map fun y => (sA P y).toNat:=by
 unfold za0
 rw [mv_k,mv_uses P hf,List.map_map]
 rfl
theorem mv_formed {n m : Int} {P : List Int} {x : Nd} (hf : zaf n x = true) (hp : ∀ y ∈ zag x,zaj m (sA P y) = true) : zaf m (mvN P x) = true:=by
 have hu:=mv_uses P hf
 have hk:=mv_kd hf
 unfold zaf at hf ⊢
 rw [hu,mv_k]
 simp only [Bool.and_eq_true] at hf ⊢
 obtain ⟨h1,h2,_,h4⟩:=hf
 refine ⟨h1,?_,?_,?_⟩
 ·rw [zaE] at h2 ⊢
  obtain ⟨k,a,b,c⟩:=x
  unfold zcd mvN at *
  dsimp only at *
  rcases hk with h | h | h | h | h | h | h | h <;> subst h <;> simp at h2 ⊢ <;> simp [h2]
 ·rw [List.all_map,List.all_eq_true]
  exact hp
 obtain ⟨k,a,b,c⟩:=x
 unfold zcS mvN at *
 dsimp only at *
 rcases hk with h | h | h | h | h | h | h | h <;> subst h <;> simp at h4 ⊢ <;> exact h4
structure Re (N M : List Nd) (K : List Nat) (P : List Int) : Prop where
  len : M.length = K.length
  lt : ∀ q ∈ K,q < N.length
  at_ : ∀ (j q : Nat),K[j]? = some q → M.getD j nd0 = mvN P (N.getD q nd0)
  inv : ∀ (j q : Nat),K[j]? = some q → P.getD q 0 = (j : Int)
  cls : ∀ q ∈ K,∀ y ∈ zag (N.getD q nd0),∃ m : Nat,y = (m : Int) ∧ m ∈ K
def zck (K : List Nat) (u : List Int) : List Int:=K.map fun q => u.getD q 0
theorem ze7 (K : List Nat) (u : List Int) : (zck K u).length = K.length:=List.length_map ..
theorem zec {K : List Nat} {j q : Nat} (h : K[j]? = some q) (u : List Int) : (zck K u).getD j 0 = u.getD q 0:=by
 unfold zck
 rw [List.getD_eq_getElem?_getD,List.getElem?_map,h]
 rfl
theorem zcY {K : List Nat} {q : Nat} (h : q ∈ K) : ∃ j,K[j]? = some q ∧ j < K.length:=by
 obtain ⟨j,hj,e⟩:=List.mem_iff_getElem.1 h
 exact ⟨j,by rw [List.getElem?_eq_getElem hj,e],hj⟩
theorem zen {K : List Nat} {j : Nat} (h : j < K.length) : ∃ q,K[j]? = some q ∧ q ∈ K:=⟨K[j],List.getElem?_eq_getElem h,List.getElem_mem h⟩
section
variable {N M : List Nd} {K : List Nat} {P : List Int}
theorem Re.sa (h : Re N M K P) {j q : Nat} (hq : K[j]? = some q) : sA P (q : Int) = (j : Int):=by rw [zaS]; exact h.inv j q hq
theorem Re.pick_sa (h : Re N M K P) (u : List Int) {q : Nat} (hq : q ∈ K) : atI (zck K u) (sA P (q : Int)) = atI u (q : Int):=by
 obtain ⟨j,hj,_⟩:=zcY hq
 rw [h.sa hj]
 unfold atI
 rw [Int.toNat_natCast,Int.toNat_natCast]
 exact zec hj u
theorem Re.pick_y (h : Re N M K P) (u : List Int) {q : Nat} (hq : q ∈ K) {y : Int} (hy : y ∈ zag (N.getD q nd0)) : atI (zck K u) (sA P y) = atI u y:=by
 obtain ⟨m,rfl,hm⟩:=h.cls q hq y hy
 exact h.pick_sa u hm
theorem Re.place (h : Re N M K P) {m : Nat} (hm : m ∈ K) : zaj (M.length : Int) (sA P (m : Int)) = true:=by
 obtain ⟨j,hj,hl⟩:=zcY hm
 rw [h.sa hj,h.len]
 unfold zaj
 simp
 omega
theorem Re.fm (h : Re N M K P) (hf : N.all (zaf N.length) = true) : M.all (zaf M.length) = true:=by
 rw [List.all_eq_true]
 intro x hx
 obtain ⟨j,hj,rfl⟩:=List.mem_iff_getElem.1 hx
 obtain ⟨q,hq,hm⟩:=zen (K:=K) (j:=j) (by rw [← h.len]; exact hj)
 have e : M[j] = mvN P (N.getD q nd0):=by
  rw [← h.at_ j q hq,List.getD_eq_getElem?_getD,List.getElem?_eq_getElem hj]
  rfl
 rw [e]
 refine mv_formed (zbF hf (h.lt q hm)) fun y hy => ?_
 obtain ⟨m,rfl,hmk⟩:=h.cls q hm y hy
 exact h.place hmk
theorem Re.all_ (h : Re N M K P) (hf : N.all (zaf N.length) = true) (ha : ∃ f,All N f) : ∃ g,All M g:=by
 obtain ⟨f,hfa⟩:=ha
 refine all_rank (pos:=fun j => f (K.getD j 0)) fun j hj i hi => ?_
 obtain ⟨q,hq,hm⟩:=zen (K:=K) (j:=j) (by rw [← h.len]; exact hj)
 have eq : K.getD j 0 = q:=by rw [List.getD_eq_getElem?_getD,hq]; rfl
 rw [h.at_ j q hq,mv_need P (zbF hf (h.lt q hm))] at hi
 split at hi
 ·cases hi
 rename_i h7
 obtain ⟨y,hy,rfl⟩:=List.mem_map.1 hi
 obtain ⟨m,rfl,hmk⟩:=h.cls q hm y hy
 obtain ⟨i,hi2,hl⟩:=zcY hmk
 rw [h.sa hi2,Int.toNat_natCast]
 have ei : K.getD i 0 = m:=by rw [List.getD_eq_getElem?_getD,hi2]; rfl
 refine ⟨by rw [h.len]; exact hl,?_⟩
 show f (K.getD i 0) < f (K.getD j 0)
 rw [ei,eq]
 refine (zfb hfa (h.lt q hm) ?_).1
 unfold za0
 rw [if_neg h7]
 exact List.mem_map.2 ⟨(m : Int),hy,Int.toNat_natCast m⟩
theorem Re.node (h : Re N M K P) {n : Int} {j q : Nat} (hq : K[j]? = some q) (hf : zaf n (N.getD q nd0) = true) {st inn st2 inn2 u : List Int} (hs : (N.getD q nd0).k = 7 → st2.getD j 0 = st.getD q 0) (hi : (N.getD q nd0).k = 1 → inn2.getD j 0 = inn.getD q 0) : zcx (mvN P (N.getD q nd0)) st2 inn2 j (zck K u) = zcx (N.getD q nd0) st inn q u:=by
 have hm : q ∈ K:=List.mem_of_getElem? hq
 have hy:=fun y => h.pick_y u hm (y:=y)
 have hk:=mv_kd hf
 generalize N.getD q nd0 = x at hs hi hy hk
 unfold zcx
 rw [mv_k]
 by_cases h0 : x.k = 0
 ·rw [if_pos h0,if_pos h0]
  unfold mvN
  rw [if_neg (by omega),if_neg (by omega),if_neg (by omega)]
 rw [if_neg h0,if_neg h0]
 by_cases h1 : x.k = 1
 ·rw [if_pos h1,if_pos h1]
  exact hi h1
 rw [if_neg h1,if_neg h1]
 by_cases h7 : x.k = 7
 ·rw [if_pos h7,if_pos h7]
  exact hs h7
 rw [if_neg h7,if_neg h7]
 unfold zeo
 rw [mv_k]
 by_cases h2 : x.k = 2
 ·rw [zbA h2] at hy
  have e : (mvN P x).a = sA P x.a:=by unfold mvN; rw [if_pos (.inl h2)]
  unfold gvS
  rw [if_pos h2,if_pos h2,e,hy _ (by simp)]
 by_cases hb : x.k = 3 ∨ x.k = 4 ∨ x.k = 5
 ·rw [zay hb] at hy
  have ea : (mvN P x).a = sA P x.a:=by unfold mvN; rw [if_neg (by omega),if_pos hb]
  have eb : (mvN P x).b = sA P x.b:=by unfold mvN; rw [if_neg (by omega),if_pos hb]
  unfold gvS
  rw [ea,eb,hy x.a (by simp),hy x.b (by simp),if_neg h2,if_neg h2]
  rcases hb with e | e | e <;> simp [e]
 have h6 : x.k = 6:=by omega
 rw [zaN h6] at hy
 have e : mvN P x = ⟨x.k,sA P x.a,sA P x.b,sA P x.c⟩:=by unfold mvN; rw [if_neg (by omega),if_neg hb,if_pos h6]
 rw [e]
 dsimp only
 rw [hy x.a (by simp),hy x.b (by simp),hy x.c (by simp)]
theorem Re.sol (h : Re N M K P) (hf : N.all (zaf N.length) = true) {st inn st2 inn2 u : List Int} (hs : ∀ j q,K[j]? = some q → (N.getD q nd0).k = 7 → st2.getD j 0 = st.getD q 0) (hi : ∀ j q,K[j]? = some q → (N.getD q nd0).k = 1 → inn2.getD j 0 = inn.getD q 0) (hu : Sol N st inn u) : Sol M st2 inn2 (zck K u):=by
 refine ⟨by rw [ze7,h.len],fun j hj => ?_⟩
 obtain ⟨q,hq,hm⟩:=zen (K:=K) (j:=j) (by rw [← h.len]; exact hj)
 rw [zec hq,hu.2 q (h.lt q hm),h.at_ j q hq]
 exact (h.node hq (zbF hf (h.lt q hm)) (hs j q hq) (hi j q hq)).symm
theorem zdR {N : List Nd} (f : Nd → Int) {q : Nat} (hq : q < N.length) : (N.map f).getD q 0 = f (N.getD q nd0):=by
 rw [List.getD_eq_getElem?_getD,List.getElem?_map,List.getD_eq_getElem?_getD,List.getElem?_eq_getElem hq]
 rfl
theorem Re.start (h : Re N M K P) : zcP M = zck K (zcP N):=by
 refine zfe (n:=K.length) (by unfold zcP; rw [List.length_map,h.len]) (ze7 _ _) fun j hj => ?_
 obtain ⟨q,hq,hm⟩:=zen hj
 rw [zec hq]
 unfold zcP
 rw [zdR stR (by rw [h.len]; exact hj),zdR stR (h.lt q hm),h.at_ j q hq]
 unfold stR
 rw [mv_k]
 by_cases h7 : (N.getD q nd0).k = 7
 ·rw [if_pos h7,if_pos h7]
  unfold mvN
  rw [if_pos (.inr h7)]
 rw [if_neg h7,if_neg h7]
theorem Re.next (h : Re N M K P) (u : List Int) : zeC M (zck K u) = zck K (zeC N u):=by
 refine zfe (n:=K.length) (by unfold zeC; rw [List.length_map,h.len]) (ze7 _ _) fun j hj => ?_
 obtain ⟨q,hq,hm⟩:=zen hj
 rw [zec hq]
 unfold zeC
 rw [zdR (nxR _) (by rw [h.len]; exact hj),zdR (nxR _) (h.lt q hm),h.at_ j q hq]
 unfold nxR
 rw [mv_k]
 by_cases h7 : (N.getD q nd0).k = 7
 ·rw [if_pos h7,if_pos h7]
  have e : (mvN P (N.getD q nd0)).a = sA P (N.getD q nd0).a:=by unfold mvN; rw [if_pos (.inr h7)]
  rw [e]
  exact h.pick_y u hm (by rw [uses_7 h7]; simp)
 rw [if_neg h7,if_neg h7]
/-! ports -/
def PK (K : List Nat) (L : List Pt) : Prop:=∀ p ∈ L,∀ y ∈ p.bits,∃ m : Nat,y = (m : Int) ∧ m ∈ K
theorem Re.num (h : Re N M K P) (u : List Int) {bs : List Int} (hb : ∀ y ∈ bs,∃ m : Nat,y = (m : Int) ∧ m ∈ K) : ∀ k,k ≤ bs.length → numS (bs.map (sA P)) (zck K u) k = numS bs u k
 | 0,_ => rfl
 | k + 1,hk => by
  unfold numS
  rw [h.num u hb k (by omega)]
  have e : atI (zck K u) ((bs.map (sA P)).getD k 0) = atI u (bs.getD k 0):=by
   rw [List.getD_eq_getElem?_getD,List.getElem?_map,List.getD_eq_getElem?_getD,List.getElem?_eq_getElem (by omega)]
   obtain ⟨m,hm,hmk⟩:=hb _ (List.getElem_mem (l:=bs) (n:=k) (by omega))
   show atI (zck K u) (sA P bs[k]) = atI u bs[k]
   rw [hm]
   exact h.pick_sa u hmk
  rw [e]
theorem Re.out (h : Re N M K P) (u : List Int) {O : List Pt} (hO : PK K O) : outS (O.map (outF P)) (zck K u) = outS O u:=by
 unfold outS
 rw [List.map_map]
 refine List.map_congr_left fun p hp => ?_
 show numS (p.bits.map (sA P)) (zck K u) (p.bits.map (sA P)).length = _
 rw [List.length_map]
 exact h.num u (hO p hp) _ (Nat.le_refl _)
theorem getD_out (P : List Int) (I : List Pt) (i : Nat) : (I.map (outF P)).getD i pt0 = outF P (I.getD i pt0):=by
 rw [List.getD_eq_getElem?_getD,List.getElem?_map,List.getD_eq_getElem?_getD]
 cases I[i]? <;> rfl
theorem out_fits (P : List Int) (I : List Pt) : zeE (I.map (outF P)) = zeE I:=by
 funext xs
 unfold zeE
 rw [List.length_map]
 have e : fitAt (I.map (outF P)) xs = fitAt I xs:=by
  funext i
  unfold fitAt
  rw [getD_out]
  show decide (_ ≤ ((I.getD i pt0).bits.map (sA P)).length) = _
  rw [List.length_map]
 rw [e]
theorem zff : ∀ (W : List (Nat × Int)) (v : List Int) (q : Nat),q < v.length → (csetL W v).getD q 0 = if (W.any fun p => p.1 == q && p.2 == 1) = true then 1 else v.getD q 0
 | [],v,q,_ => rfl
 | p :: W,v,q,hq => by
  have e : csetL (p :: W) v = csetL W (if p.2 = 1 then v.set p.1 1 else v):=rfl
  rw [e,zff W _ q (by split <;> simp [hq]),List.any_cons]
  by_cases h2 : p.2 = 1
  ·rw [if_pos h2,zdU]
   by_cases h1 : q = p.1
   ·subst h1
    simp [h2,hq]
   have e2 : ¬ (q = p.1 ∧ p.1 < v.length):=fun k => h1 k.1
   have : (p.1 == q) = false:=by simp; exact fun k => h1 k.symm
   rw [if_neg e2,this]
   simp
  rw [if_neg h2]
  have : (p.2 == 1) = false:=by simpa using h2
  rw [this]
  simp
theorem imap_getD (f : Int → Int) {L : List Int} {k : Nat} (hk : k < L.length) : (L.map f).getD k 0 = f (L.getD k 0):=by
 rw [List.getD_eq_getElem?_getD,List.getElem?_map,List.getD_eq_getElem?_getD,List.getElem?_eq_getElem hk]
 rfl
theorem igetD_mem {L : List Int} {k : Nat} (hk : k < L.length) : L.getD k 0 ∈ L:=by
 rw [List.getD_eq_getElem?_getD,List.getElem?_eq_getElem hk]
 exact List.getElem_mem hk
theorem pr_mv (P : List Int) (I : List Pt) (xs : List Nat) : prI (I.map (outF P)) xs = (List.range I.length).flatMap fun i => (List.range (I.getD i pt0).bits.length).map fun k => ((sA P ((I.getD i pt0).bits.getD k 0)).toNat,bitI (xs.getD i 0) k):=by
 unfold prI
 rw [List.length_map]
 congr 1
 funext i
 rw [getD_out]
 unfold prP outF
 dsimp only
 rw [List.length_map]
 refine List.map_congr_left fun k hk => ?_
 have hk:=List.mem_range.1 hk
 rw [imap_getD (sA P) hk]
theorem getD_memP {I : List Pt} {i : Nat} (h : i < I.length) : I.getD i pt0 ∈ I:=by
 rw [List.getD_eq_getElem?_getD,List.getElem?_eq_getElem h]
 exact List.getElem_mem h
theorem Re.ins (h : Re N M K P) {I : List Pt} (hI : PK K I) {xs : List Nat} (hfit : zeE I xs = true) {j q : Nat} (hq : K[j]? = some q) : (insR (I.map (outF P)) xs (List.replicate M.length 0) (I.map (outF P)).length).getD j 0 = (insR I xs (List.replicate N.length 0) I.length).getD q 0:=by
 have hm : q ∈ K:=List.mem_of_getElem? hq
 have hjl : j < K.length:=(List.getElem?_eq_some_iff.1 hq).1
 have hf2:=hfit
 rw [← out_fits P I] at hf2
 have H0 : ∀ {J : List Pt},zeE J xs = true → ∀ i < J.length,blen (xs.getD i 0) ≤ (J.getD i pt0).bits.length:=fun {J} hJ i hi => by
  unfold zeE at hJ
  rw [Bool.and_eq_true] at hJ
  have:=List.all_eq_true.1 hJ.2 i (List.mem_range.2 hi)
  exact of_decide_eq_true this
 rw [insR_is _ _ _ _ (H0 hf2),insR_is _ _ _ _ (H0 hfit)]
 have e1 : (List.range (I.map (outF P)).length).flatMap (fun i => prP ((I.map (outF P)).getD i pt0) (xs.getD i 0)) = prI (I.map (outF P)) xs:=rfl
 have e2 : (List.range I.length).flatMap (fun i => prP (I.getD i pt0) (xs.getD i 0)) = prI I xs:=rfl
 rw [e1,e2,zff _ _ _ (by rw [List.length_replicate,h.len]; exact hjl),zff _ _ _ (by rw [List.length_replicate]; exact h.lt q hm)]
 have e : ((prI (I.map (outF P)) xs).any fun p => p.1 == j && p.2 == 1) = ((prI I xs).any fun p => p.1 == q && p.2 == 1):=by
  rw [pr_mv]
  unfold prI prP
  rw [Bool.eq_iff_iff,List.any_eq_true,List.any_eq_true]
  have key : ∀ i,i < I.length → ∀ k,k < (I.getD i pt0).bits.length → ((sA P ((I.getD i pt0).bits.getD k 0)).toNat = j ↔ ((I.getD i pt0).bits.getD k 0).toNat = q):=fun i hi k hk => by
   obtain ⟨m,hmy,hmk⟩:=hI _ (getD_memP hi) ((I.getD i pt0).bits.getD k 0) (igetD_mem hk)
   obtain ⟨jm,hjm,_⟩:=zcY hmk
   rw [hmy,h.sa hjm,Int.toNat_natCast,Int.toNat_natCast]
   constructor
   ·intro e
    subst e
    rw [hjm] at hq
    injection hq
   intro e
   subst e
   have a:=h.inv _ _ hjm
   have b:=h.inv _ _ hq
   omega
  constructor
  ·rintro ⟨p,hp,ht⟩
   obtain ⟨i,hi,hp⟩:=List.mem_flatMap.1 hp
   obtain ⟨k,hk,rfl⟩:=List.mem_map.1 hp
   have hi:=List.mem_range.1 hi
   have hk:=List.mem_range.1 hk
   simp only [Bool.and_eq_true,beq_iff_eq] at ht
   refine ⟨(((I.getD i pt0).bits.getD k 0).toNat,bitI (xs.getD i 0) k),List.mem_flatMap.2 ⟨i,List.mem_range.2 hi,List.mem_map.2 ⟨k,List.mem_range.2 hk,rfl⟩⟩,?_⟩
   simp only [Bool.and_eq_true,beq_iff_eq]
   exact ⟨(key i hi k hk).1 ht.1,ht.2⟩
  rintro ⟨p,hp,ht⟩
  obtain ⟨i,hi,hp⟩:=List.mem_flatMap.1 hp
  obtain ⟨k,hk,rfl⟩:=List.mem_map.1 hp
  have hi:=List.mem_range.1 hi
  have hk:=List.mem_range.1 hk
  simp only [Bool.and_eq_true,beq_iff_eq] at ht
  refine ⟨((sA P ((I.getD i pt0).bits.getD k 0)).toNat,bitI (xs.getD i 0) k),List.mem_flatMap.2 ⟨i,List.mem_range.2 hi,List.mem_map.2 ⟨k,List.mem_range.2 hk,rfl⟩⟩,?_⟩
  simp only [Bool.and_eq_true,beq_iff_eq]
  exact ⟨(key i hi k hk).2 ht.1,ht.2⟩
 have z : ∀ (n i : Nat),i < n → (List.replicate n (0 : Int)).getD i 0 = 0:=fun n i hi => by
  rw [List.getD_eq_getElem?_getD,List.getElem?_replicate,if_pos hi]
  rfl
 rw [e,z _ _ (by rw [h.len]; exact hjl),z _ _ (h.lt q hm)]
theorem Re.run (h : Re N M K P) {I O : List Pt} (hI : PK K I) (hO : PK K O) (hf : N.all (zaf N.length) = true) (ha : ∃ f,All N f) {L L2 : List Nat} (ho : Odr N L) (ho2 : Odr M L2) (xss : List (List Nat)) : ze0 M (I.map (outF P)) (O.map (outF P)) (nI L2) xss = ze0 N I O (nI L) xss:=by
 obtain ⟨g,hga⟩:=h.all_ hf ha
 have hfm:=h.fm hf
 unfold ze0
 rw [out_fits]
 by_cases hx : xss.all (zeE I) = true
 ·rw [if_pos hx,if_pos hx]
  congr 1
  have H0 : ∀ j,j < xss.length → zeE I (xss.getD j []) = true:=fun j hj => by
   refine List.all_eq_true.1 hx _ ?_
   rw [List.getD_eq_getElem?_getD,List.getElem?_eq_getElem hj]
   exact List.getElem_mem hj
  have hv : ∀ xs st,zeE I xs = true → rval M (I.map (outF P)) (nI L2) (zck K st) xs = zck K (rval N I (nI L) st xs):=fun xs st hxs => by
   have s1:=zcW ho hf st (insR I xs (List.replicate N.length 0) I.length)
   have s2:=zcW ho2 hfm (zck K st) (insR (I.map (outF P)) xs (List.replicate M.length 0) (I.map (outF P)).length)
   exact zds hga hfm s2 (h.sol hf (fun j q hq _ => zec hq st) (fun j q hq _ => h.ins hI hxs hq) s1)
  have hst : ∀ j,j ≤ xss.length → rst M (I.map (outF P)) (nI L2) xss j = zck K (rst N I (nI L) xss j):=by
   intro j
   induction j with
   | zero => intro _; exact h.start
   | succ j ih =>
    intro hj
    unfold rst
    rw [ih (by omega),hv _ _ (H0 j (by omega))]
    exact h.next _
  refine List.map_congr_left fun j hj => ?_
  have hj:=List.mem_range.1 hj
  unfold rtold
  rw [hst j (by omega),hv _ _ (H0 j hj)]
  exact h.out _ hO
 rw [if_neg hx,if_neg hx]
theorem count_mv {f : Int → Int} {a b : Int} : ∀ {L : List Int},(∀ y ∈ L,f y = b ↔ y = a) → (L.map f).count b = L.count a
 | [],_ => rfl
 | y :: L,h => by
  have h1:=h y (List.mem_cons_self ..)
  rw [List.map_cons,List.count_cons,List.count_cons,count_mv fun z hz => h z (List.mem_cons_of_mem _ hz)]
  congr 1
  by_cases e : y = a
  ·rw [if_pos (by simpa using h1.2 e),if_pos (by simpa using e)]
  rw [if_neg (by simpa using fun k => e (h1.1 k)),if_neg (by simpa using e)]
theorem zfg (P : List Int) (L : List Pt) : zah (L.map (outF P)) = (zah L).map (sA P):=by
 unfold zah
 rw [List.flatMap_map,List.map_flatMap]
 rfl
theorem PK.comes {L : List Pt} (h : PK K L) : ∀ y ∈ zah L,∃ m : Nat,y = (m : Int) ∧ m ∈ K:=fun y hy => by
 obtain ⟨p,hp,hy⟩:=List.mem_flatMap.1 hy
 exact h p hp y hy
theorem Re.back (h : Re N M K P) {j q : Nat} (hq : K[j]? = some q) {y : Int} (hy : ∃ m : Nat,y = (m : Int) ∧ m ∈ K) : sA P y = (j : Int) ↔ y = (q : Int):=by
 obtain ⟨m,rfl,hm⟩:=hy
 obtain ⟨i,hi,_⟩:=zcY hm
 rw [h.sa hi]
 constructor
 ·intro e
  have e : i = j:=by omega
  subst e
  rw [hi] at hq
  injection hq with e
  rw [e]
 intro e
 have e : m = q:=by omega
 subst e
 have a:=h.inv _ _ hi
 have b:=h.inv _ _ hq
 omega
theorem Re.bits (h : Re N M K P) {L : List Pt} (hL : PK K L) (hb : L.all (zaM N.length) = true) : (L.map (outF P)).all (zaM M.length) = true:=by
 rw [List.all_eq_true] at hb ⊢
 intro p hp
 obtain ⟨p0,hp0,rfl⟩:=List.mem_map.1 hp
 have h1:=hb p0 hp0
 unfold zaM at h1 ⊢
 rw [Bool.and_eq_true_iff] at h1 ⊢
 refine ⟨?_,?_⟩
 ·have:=of_decide_eq_true h1.1
  apply decide_eq_true
  unfold outF
  intro e
  exact this (List.map_eq_nil_iff.1 e)
 rw [List.all_eq_true]
 intro y hy
 unfold outF at hy
 obtain ⟨z,hz,rfl⟩:=List.mem_map.1 hy
 obtain ⟨m,rfl,hm⟩:=hL p0 hp0 z hz
 exact h.place hm
theorem Re.all (h : Re N M K P) {I O : List Pt} (hI : PK K I) (hO : PK K O) {dd : List Nat} (hl : zaB N I O = (some dd,0)) (ha : ∃ f,All N f) : RwA N I O M (I.map (outF P)) (O.map (outF P)):=by
 have h0 : zaU N I O = 0:=by
  unfold zaB at hl
  split at hl
  ·exact absurd (congrArg Prod.fst hl) (by simp)
  rename_i h0; simpa using h0
 obtain ⟨w1,w2,w3,w4,w5,w6⟩:=zcw.1 h0
 have hP : PK K (I ++ O):=fun p hp => by
  rcases List.mem_append.1 hp with hp | hp
  ·exact hI p hp
  exact hO p hp
 have hfm:=h.fm w2
 have hb:=h.bits hP w3
 rw [List.map_append] at hb
 have hn : (I.map (outF P) ++ O.map (outF P)).map Pt.name = (I ++ O).map Pt.name:=by rw [List.map_append,zdy,zdy,List.map_append]
 have hw : zaU M (I.map (outF P)) (O.map (outF P)) = 0:=by
  refine zcw.2 ⟨by rw [List.length_map,List.length_map]; exact w1,hfm,hb,?_,by rw [dupS_map hn]; exact w5,?_⟩
  ·have key : ∀ L : List Pt,L.all (fun p => zbm p.name) = (L.map Pt.name).all zbm:=fun L => by rw [List.all_map]; rfl
   rw [key,hn,← key]
   exact w4
  unfold fedS at w6 ⊢
  rw [List.all_eq_true] at w6 ⊢
  intro j hj
  have hj:=List.mem_range.1 hj
  obtain ⟨q,hq,hm⟩:=zen (K:=K) (j:=j) (by rw [← h.len]; exact hj)
  have:=w6 q (List.mem_range.2 (h.lt q hm))
  unfold zer at this ⊢
  rw [zcB (h.lt q hm)] at this
  rw [zcB hj,h.at_ j q hq,mv_k,zfg,count_mv fun y hy => h.back hq (hI.comes y hy)]
  exact this
 obtain ⟨g,hg⟩:=h.all_ w2 ha
 refine ⟨⟨(List.range M.length).map g,?_⟩,hfm,hb,⟨g,hg⟩,fun xss L L2 ho ho2 => h.run hI hO w2 ha ho ho2 xss⟩
 unfold zaB
 rw [if_neg (by simpa using hw),zc5 hg]
theorem Re.rch (h : Re N M K P) (hf : N.all (zaf N.length) = true) {Y : List Int} (hY : ∀ y ∈ Y,∃ m : Nat,y = (m : Int) ∧ m ∈ K) {q : Nat} (hr : Rch N (fun p => (p : Int) ∈ Y) q) : ∃ j,K[j]? = some q ∧ Rch M (fun p => (p : Int) ∈ Y.map (sA P)) j:=by
 induction hr with
 | @base p hq =>
  obtain ⟨m,e,hm⟩:=hY _ hq
  obtain rfl : p = m:=by omega
  obtain ⟨j,hj,_⟩:=zcY hm
  exact ⟨j,hj,.base (List.mem_map.2 ⟨_,hq,h.sa hj⟩)⟩
 | step _ hy ih =>
  obtain ⟨j,hj,hr⟩:=ih
  have hm : _ ∈ K:=List.mem_of_getElem? hj
  obtain ⟨m,rfl,hmk⟩:=h.cls _ hm _ hy
  obtain ⟨i,hi,_⟩:=zcY hmk
  refine ⟨i,by rw [Int.toNat_natCast]; exact hi,?_⟩
  have:=hr.step (y:=sA P (m : Int)) (by rw [h.at_ j _ hj,mv_uses P (zbF hf (h.lt _ hm))]; exact List.mem_map.2 ⟨_,hy,rfl⟩)
  rw [h.sa hi,Int.toNat_natCast] at this
  exact this
end
/-! what is kept -/
def kpQ (B : List Bool) (j : Nat) : List Nat:=(List.range j).filter fun p => B.getD p false
theorem kpL_Q (N : List Nd) (B : List Bool) (j : Nat) : kpL N B j = (kpQ B j).map fun q => N.getD q nd0:=rfl
theorem kpQ_s (B : List Bool) (j : Nat) : kpQ B (j + 1) = kpQ B j ++ if B.getD j false = true then [j] else []:=by
 unfold kpQ
 rw [List.range_succ,List.filter_append]
 by_cases h : B.getD j false = true
 ·rw [if_pos h,List.filter_cons_of_pos (p:=fun p => B.getD p false) h]
  rfl
 rw [if_neg h,List.filter_cons_of_neg (p:=fun p => B.getD p false) h]
 rfl
theorem zcq {B : List Bool} {n q : Nat} : q ∈ kpQ B n ↔ q < n ∧ B.getD q false = true:=by
 unfold kpQ
 rw [List.mem_filter,List.mem_range]
theorem kpQ_at {B : List Bool} : ∀ {n j q : Nat},(kpQ B n)[j]? = some q → j = (kpQ B q).length
 | 0,j,q,h => by cases h
 | n + 1,j,q,h => by
  rw [kpQ_s] at h
  by_cases hj : j < (kpQ B n).length
  ·rw [List.getElem?_append_left hj] at h
   exact kpQ_at h
  rw [List.getElem?_append_right (by omega)] at h
  split at h
  ·have hl:=(List.getElem?_eq_some_iff.1 h).1
   have hl : j - (kpQ B n).length < 1:=hl
   have e : j - (kpQ B n).length = 0:=by omega
   rw [e] at h
   injection h with h
   subst h
   omega
  cases h
theorem re_sweep {N : List Nd} {I O : List Pt} {B : List Bool} (hl : B.length = N.length) (hf : N.all (zaf N.length) = true) (hY : Plc N.length (zah I ++ zah O)) (hB : ∀ p,B.getD p false = true ↔ Rch N (fun p => (p : Int) ∈ zah I ++ zah O) p) : Re N ((kpL N B N.length).map (mvN (plS N B N.length N.length))) (kpQ B N.length) (plS N B N.length N.length) ∧ PK (kpQ B N.length) I ∧ PK (kpQ B N.length) O:=by
 have H0 : (kpL N B N.length).length = (kpQ B N.length).length:=by rw [kpL_Q,List.length_map]
 have hin : ∀ y ∈ zah I ++ zah O,∃ m : Nat,y = (m : Int) ∧ m ∈ kpQ B N.length:=fun y hy => by
  obtain ⟨m,rfl,hm⟩:=hY y hy
  exact ⟨m,rfl,zcq.2 ⟨hm,(hB m).2 (.base hy)⟩⟩
 refine ⟨⟨by rw [List.length_map,H0],fun q hq => (zcq.1 hq).1,fun j q hj => ?_,fun j q hj => ?_,fun q hq y hy => ?_⟩,fun p hp y hy => hin y (List.mem_append_left _ (List.mem_flatMap.2 ⟨p,hp,hy⟩)),fun p hp y hy => hin y (List.mem_append_right _ (List.mem_flatMap.2 ⟨p,hp,hy⟩))⟩
 ·rw [List.getD_eq_getElem?_getD,List.getElem?_map,kpL_Q,List.getElem?_map,hj]
  rfl
 ·obtain ⟨h1,h2⟩:=zcq.1 (List.mem_of_getElem? hj)
  unfold plS
  rw [List.getD_eq_getElem?_getD,List.getElem?_map,List.getElem?_range h1]
  show (if q < N.length then plF N B q else 0) = _
  rw [if_pos h1]
  unfold plF
  rw [if_pos h2,kpL_Q,List.length_map,kpQ_at hj]
 obtain ⟨h1,h2⟩:=zcq.1 hq
 have hp : Plc N.length (zag (N.getD q nd0)):=zcj hf rfl q h1
 obtain ⟨m,rfl,hm⟩:=hp y hy
 refine ⟨m,rfl,zcq.2 ⟨hm,?_⟩⟩
 rw [hB]
 have:=((hB q).1 h2).step hy
 rw [Int.toNat_natCast] at this
 exact this
theorem kp_all {M : List Nd} {B : List Bool} (h : ∀ p,p < M.length → B.getD p false = true) : ∀ j,j ≤ M.length → kpQ B j = List.range j
 | 0,_ => rfl
 | j + 1,hj => by rw [kpQ_s,if_pos (h j (by omega)),kp_all h j (by omega),List.range_succ]
theorem mv_id {n : Int} {P : List Int} {x : Nd} (hf : zaf n x = true) (h : ∀ y ∈ zag x,sA P y = y) : mvN P x = x:=by
 unfold mvN
 rcases mv_kd hf with e | e | e | e | e | e | e | e
 ·rw [if_neg (by omega),if_neg (by omega),if_neg (by omega)]
 ·rw [if_neg (by omega),if_neg (by omega),if_neg (by omega)]
 ·rw [if_pos (by omega),h x.a (by rw [zbA e]; simp)]
 ·rw [if_neg (by omega),if_pos (by omega),h x.a (by rw [zay (by omega)]; simp),h x.b (by rw [zay (by omega)]; simp)]
 ·rw [if_neg (by omega),if_pos (by omega),h x.a (by rw [zay (by omega)]; simp),h x.b (by rw [zay (by omega)]; simp)]
 ·rw [if_neg (by omega),if_pos (by omega),h x.a (by rw [zay (by omega)]; simp),h x.b (by rw [zay (by omega)]; simp)]
 ·rw [if_neg (by omega),if_neg (by omega),if_pos e,h x.a (by rw [zaN e]; simp),h x.b (by rw [zaN e]; simp),h x.c (by rw [zaN e]; simp)]
 rw [if_pos (by omega),h x.a (by rw [uses_7 e]; simp)]
theorem again_id {M : List Nd} {I O : List Pt} {B : List Bool} (hf : M.all (zaf M.length) = true) (hb : (I ++ O).all (zaM M.length) = true) (h : ∀ p,p < M.length → B.getD p false = true) : (kpL M B M.length).length = M.length ∧ (kpL M B M.length).map (mvN (plS M B M.length M.length)) = M ∧ I.map (outF (plS M B M.length M.length)) = I ∧ O.map (outF (plS M B M.length M.length)) = O:=by
 have hk : kpL M B M.length = M:=by
  rw [kpL_Q,kp_all h _ (Nat.le_refl _)]
  exact (range_map M nd0 id).trans (List.map_id _)
 have hp : ∀ m : Nat,m < M.length → sA (plS M B M.length M.length) (m : Int) = (m : Int):=fun m hm => by
  rw [zaS]
  unfold plS
  rw [List.getD_eq_getElem?_getD,List.getElem?_map,List.getElem?_range hm]
  show (if m < M.length then plF M B m else 0) = _
  rw [if_pos hm]
  unfold plF
  rw [if_pos (h m hm),kpL_Q,List.length_map,kp_all h m (by omega),List.length_range]
 have hpl : ∀ y,zaj (M.length : Int) y = true → sA (plS M B M.length M.length) y = y:=fun y hy => by
  unfold zaj at hy
  simp at hy
  obtain ⟨m,rfl⟩:=Int.eq_ofNat_of_zero_le hy.1
  exact hp m (by omega)
 have H0 : ∀ L : List Pt,(∀ p ∈ L,zaM M.length p = true) → L.map (outF (plS M B M.length M.length)) = L:=fun L hL => by
  refine (List.map_congr_left fun p hp => ?_).trans (List.map_id _)
  have h1:=hL p hp
  unfold zaM at h1
  have h2:=List.all_eq_true.1 (Bool.and_eq_true_iff.1 h1).2
  unfold outF
  have e : p.bits.map (sA (plS M B M.length M.length)) = p.bits:=(List.map_congr_left fun y hy => hpl y (h2 y hy)).trans (List.map_id _)
  rw [e]
  rfl
 refine ⟨by rw [hk],?_,H0 I fun p hp => List.all_eq_true.1 hb p (List.mem_append_left _ hp),H0 O fun p hp => List.all_eq_true.1 hb p (List.mem_append_right _ hp)⟩
 rw [hk]
 refine (List.map_congr_left fun x hx => ?_).trans (List.map_id _)
 have h1:=List.all_eq_true.1 hf x hx
 refine mv_id h1 fun y hy => hpl y ?_
 unfold zaf at h1
 simp only [Bool.and_eq_true] at h1
 exact List.all_eq_true.1 h1.2.2.1 y hy
end Go.Proofs.Ytcehklnonhalhaa
