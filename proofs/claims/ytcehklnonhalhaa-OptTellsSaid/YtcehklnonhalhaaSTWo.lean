/-
  What the proofs of OptTells need: Wo.
-/
import Derived.Test.YtcehklnonhalhaaSTWu
set_option linter.unusedVariables false
namespace Go.Proofs.Ytcehklnonhalhaa
open Go.RowKit
set_option maxRecDepth 4000
set_option maxRecDepth 20000 in
set_option maxHeartbeats 8000000 in
theorem rsweep_yesH {An Ai Ao : Option Addr} {nn cn ni ci no co : Nat} {N : List Nd} {I O : List Pt} {w : World} (h : Nt w An nn cn Ai ni ci Ao no co N I O) (hm : Nm I O) (hni : ni ≤ 66) (hno : no ≤ 66) (hb : ∀ p ∈ I ++ O,p.bits.length ≤ 4000) {dd L : List Nat} (lx : LvN N I O dd L) :
  Calls Try.prog 27 #[.agg #[.slice An nn cn,.slice Ai ni ci,.slice Ao no co]] w fun en w' => SwH N I O nn ni no w.heap.size en w' ∧ Below w.heap.size w w':=by
 have HB:=Lib.hid hb
 have LX:=Lib.hid lx
 have HM:=Lib.hid hm
 have HLN:=Lib.hid h.n.1
 have hnn:=h.hn
 have HNB:=Lib.hid h.hb
 have HHS:=Lib.hid h.hs
 clear hb lx hm
 go_enter Try.func27,Try.ntmps27
 go_upto_region 1 with fail
 obtain ⟨w1,e1,z0,ZR,BW⟩:=zmA w [.slice An nn cn,.slice Ai ni ci,.slice Ao no co] 25 [.slice none 0 0,.slice none 0 0,.slice none 0 0] 25
 rw [e1]
 clear e1
 replace h:=h.on BW
 obtain ⟨s1,hs1,hws,hn01⟩:=zmS w
 rw [hs1] at ZR ⊢
 clear hs1
 obtain ⟨c0,c1,c2⟩:=z0.zb3
 go_wp2_with fail
 refine (rcount_yes h HM.out hno HB.out LX.out).mono ?_
 rintro en w2 ⟨⟨g,B,rfl,hct,hgs⟩,b⟩
 clear c0 c1 c2
 replace z0:=z0.on b
 replace h:=h.on b
 replace ZR:=ZR.below b ZR.lt
 replace BW:=Below.step BW b
 have HRC:=Lib.hid hct.2.2
 have hlb:=hct.2.1
 have HG:=Lib.hid hct.1
 have K6 : Hid (Re N ((kpL N B nn).map (mvN (plS N B nn nn))) (kpQ B nn) (plS N B nn nn) ∧ PK (kpQ B nn) I ∧ PK (kpQ B nn) O):=Lib.hid (by
  have e:=HLN.out
  subst e
  exact re_sweep hlb LX.out.fm (zcR LX.out) HRC.out)
 clear b hct
 go_upto_region 5 with fail
 have hrow : (w2.alloc (.cells #[] 3)).ownsRow w2.heap.size 3 1 (.slice (some ⟨w2.heap.size,0,none⟩) 0 0) 0 []:=World.ownsRow_lit w2 #[] 0 (Nat.le_refl _) (by unfold maxLen; omega) rfl
 have b3 : Below w2.heap.size w2 (w2.alloc (.cells #[] 3)):=zaa _ _
 obtain ⟨w3,e3⟩ : ∃ w',w2.alloc (.cells #[] 3) = w':=⟨_,rfl⟩
 rw [e3] at hrow b3 ⊢
 obtain ⟨s3,hs3⟩ : ∃ s3,w2.heap.size = s3:=⟨_,rfl⟩
 have HS3 : Hid (w2.heap.size = s3):=Lib.hid hs3
 have HR3 : Hid (w3.ownsRow w2.heap.size 3 1 (.slice (some ⟨s3,0,none⟩) 0 0) 0 ((byR B 0).flatMap inC)):=Lib.hid (by rw [← HS3.out]; exact hrow)
 have HB3:=Lib.hid b3
 have e0 : Value.slice (some ⟨w2.heap.size,0,none⟩) 0 0 = Value.slice (some ⟨s3,0,none⟩) 0 0:=by rw [hs3]
 rw [e0]
 clear e0 e3 hrow b3 hs3
 go_wp2_with fail
 go_loopw [7,8,9] (fun tv kv iv wr => ∃ (vt : Value) (j kk : Nat),vt = tv ∧ j ≤ nn ∧ iv = .int .i64 j ∧ kv = .int .i64 kk ∧ Hid (kk = (kpQ B j).length) ∧ kk ≤ j ∧ Hid (wr.ownsRow w2.heap.size 3 1 vt j ((byR B j).flatMap inC)) ∧ Hid (Below w2.heap.size w2 wr)) (fun _ _ iv _ => nn - (intOf iv).toNat)
 case atStart => exact ⟨_,0,0,rfl,Nat.zero_le _,rfl,rfl,Lib.hid rfl,Nat.le_refl _,HR3,HB3⟩
 clear HR3 HB3
 obtain ⟨vt,j,kk,rfl,hj,rfl,rfl,HKK,hkj,HROW,HBR⟩:=hrel
 have a1 : ∀ u,B.getD j false = u → j < nn → wr.cell? ⟨g,j,none⟩ = some (.bool u):=fun u hu hl => by
  rw [(HG.out.below HBR.out HG.out.lt).cell j,List.getElem?_map,List.getElem?_eq_getElem (by omega)]
  rw [List.getD_eq_getElem?_getD,List.getElem?_eq_getElem (by omega)] at hu
  exact congrArg (fun b => some (Value.bool b)) hu
 have HA1:=Lib.hid a1
 clear a1
 by_cases hlt : j < nn
 ·have hjn : (j : Int) < (nn : Int):=by omega
  have hj0 : (0 : Int) ≤ (j : Int):=by omega
  have hln : ((byR B j).flatMap inC).length = j:=by rw [zas inC 1 zaC,byR_len]; omega
  have hbw : w2.heap.size ≤ wr.heap.size:=HBR.out.size
  have hr:=HROW.out
  go_upto_region 10 with (at_builtin; refine zbR wr rfl _ _ 39 rfl zbI (by omega) w2.heap.size vt j ((byR B j).flatMap inC) hln rfl hr (.int .i64 (kk : Int)) rfl rfl (by omega) hbw ?_; intro v' w5 hr5 hG5 hnb5)
  have bl : Below wr.heap.size wr (wr.alloc (.cells #[.int .i64 (kk : Int)] 3)):=zaa _ _
  have eT : (byR B j).flatMap inC ++ [.int .i64 (kk : Int)] = (byR B (j + 1)).flatMap inC:=by rw [byR_s,List.flatMap_append,HKK.out]; rfl
  rw [eT] at hr5
  have HR5:=Lib.hid hr5
  have B5:=(Below.step HBR.out bl).grown hG5 (Nat.le_trans hbw bl.size) (fun k hk => (hr.lt k hk).1)
  have HB5:=Lib.hid B5
  obtain ⟨u,hu⟩ : ∃ u,B.getD j false = u:=⟨_,rfl⟩
  have a2 : w5.cell? ⟨g,j,none⟩ = some (.bool u):=by
   rw [(HG.out.below B5 HG.out.lt).cell j,List.getElem?_map,List.getElem?_eq_getElem (by omega)]
   rw [List.getD_eq_getElem?_getD,List.getElem?_eq_getElem (by omega)] at hu
   exact congrArg (fun b => some (Value.bool b)) hu
  have HU:=Lib.hid hu
  clear hr hr5 hG5 hnb5 bl eT B5 hu HROW hln
  cases u
  ·have Ke : Hid (kk = (kpQ B (j + 1)).length):=Lib.hid (by rw [kpQ_f HU.out]; exact HKK.out)
   go_wp2_with fail
   go_roundw
   case rel => exact ⟨v',j + 1,kk,rfl,by omega,by go_num,rfl,Ke,by omega,HR5,HB5⟩
   case measure => simp [intOf]; omega
  have Ke : Hid (kk + 1 = (kpQ B (j + 1)).length):=Lib.hid (by rw [kpQ_t HU.out,← HKK.out])
  go_wp2_with fail
  go_roundw
  case rel => exact ⟨v',j + 1,kk + 1,rfl,by omega,by go_num,by go_num,Ke,by omega,HR5,HB5⟩
  case measure => simp [intOf]; omega
 obtain rfl : j = nn:=by omega
 have hjn : ¬ (j : Int) < (j : Int):=by omega
 obtain ⟨Ab,cb,rfl,swb,hoff,hby⟩:=za4 HROW.out
 have Hg:=Lib.hid hoff
 clear hoff
 have HLK : Hid (kk = (kpL N B j).length):=Lib.hid (by rw [kpL_Q,List.length_map]; exact HKK.out)
 obtain ⟨P,hP⟩ : ∃ P,byR B j = P:=⟨_,rfl⟩
 have HP:=Lib.hid hP
 rw [hP] at hby
 obtain ⟨w5,rfl⟩ : ∃ x,x = wr:=⟨_,rfl⟩
 have z5:=z0.on HBR.out
 have h5:=h.on HBR.out
 have G5:=HG.out.below HBR.out HG.out.lt
 have K5:=ZR.below HBR.out ZR.lt
 have K7:=BW.trans (HBR.out.mono BW.size)
 have HLO : Hid (w.heap.size ≤ w5.heap.size):=Lib.hid K7.size
 clear hP HROW HBR HA1 z0 h ZR BW HG
 go_upto_region 13 with fail
 have hrow : (w5.alloc (.cells #[] 43)).ownsRow w5.heap.size 43 4 (.slice (some ⟨w5.heap.size,0,none⟩) 0 0) 0 []:=World.ownsRow_lit w5 #[] 0 (Nat.le_refl _) (by unfold maxLen; omega) rfl
 have b6 : Below w5.heap.size w5 (w5.alloc (.cells #[] 43)):=zaa _ _
 obtain ⟨w6,e6⟩ : ∃ w',w5.alloc (.cells #[] 43) = w':=⟨_,rfl⟩
 rw [e6] at hrow b6 ⊢
 obtain ⟨s6,hs6⟩ : ∃ s6,w5.heap.size = s6:=⟨_,rfl⟩
 have HS6 : Hid (w5.heap.size = s6):=Lib.hid hs6
 have HR6 : Hid (w6.ownsRow w5.heap.size 43 4 (.slice (some ⟨s6,0,none⟩) 0 0) (kpL N B 0).length (((kpL N B 0).map (mvN P)).flatMap ndC)):=Lib.hid (by rw [← HS6.out]; exact hrow)
 have HB6:=Lib.hid b6
 have e0 : Value.slice (some ⟨w5.heap.size,0,none⟩) 0 0 = Value.slice (some ⟨s6,0,none⟩) 0 0:=by rw [hs6]
 rw [e0]
 clear e0 e6 hrow b6 hs6
 go_wp2_with fail
 go_loopw [10,11] (fun tv iv wr => ∃ (vt : Value) (i : Nat),vt = tv ∧ i ≤ j ∧ iv = .int .i64 i ∧ Hid (wr.ownsRow w5.heap.size 43 4 vt (kpL N B i).length (((kpL N B i).map (mvN P)).flatMap ndC)) ∧ Hid (Below w5.heap.size w5 wr)) (fun _ iv _ => j - (intOf iv).toNat)
 case atStart => exact ⟨_,0,rfl,Nat.zero_le _,rfl,HR6,HB6⟩
 clear HR6 HB6
 obtain ⟨vt,i,rfl,hi,rfl,HROW,HBR⟩:=hrel
 by_cases hlt : i < j
 ·have hin : (i : Int) < (j : Int):=by omega
  have hi0 : (0 : Int) ≤ (i : Int):=by omega
  obtain ⟨u,hu⟩ : ∃ u,B.getD i false = u:=⟨_,rfl⟩
  have a1 : wr.cell? ⟨g,i,none⟩ = some (.bool u):=by
   rw [(G5.below HBR.out G5.lt).cell i,List.getElem?_map,List.getElem?_eq_getElem (by omega)]
   rw [List.getD_eq_getElem?_getD,List.getElem?_eq_getElem (by omega)] at hu
   exact congrArg (fun b => some (Value.bool b)) hu
  have HU:=Lib.hid hu
  clear hu
  cases u
  ·have HR2 : Hid (wr.ownsRow w5.heap.size 43 4 vt (kpL N B (i + 1)).length (((kpL N B (i + 1)).map (mvN P)).flatMap ndC)):=Lib.hid (by rw [kpL_f HU.out]; exact HROW.out)
   go_wp2_with fail
   go_roundw
   case rel => exact ⟨vt,i + 1,rfl,by omega,by go_num,HR2,HBR⟩
   case measure => simp [intOf]; omega
  obtain ⟨bn,off,x1,x2,x3,x4,eA,HX,hA⟩:=(h5.n.on HBR.out).nat hlt
  subst eA
  have K2 : Hid (N.getD i nd0 = ⟨x1,x2,x3,x4⟩):=Lib.hid (getD_of HX.out)
  have Hw : Hid (∀ y ∈ zag ⟨x1,x2,x3,x4⟩,∃ m : Nat,y = (m : Int) ∧ m < j):=Lib.hid fun y hy => by
   obtain ⟨m,e,hm⟩:=K6.out.1.cls i (zcq.2 ⟨hlt,HU.out⟩) y (by rw [K2.out]; exact hy)
   exact ⟨m,e,(zcq.1 hm).1⟩
  have a0:=(z5.on HBR.out).2 0 _ rfl
  have d1:=hA.c1; have d2:=hA.c2; have d3:=hA.c3; have d4:=hA.c4
  go_upto_region 18 with fail
  obtain ⟨w9,e_w9⟩ : ∃ w',wr.alloc (.cells #[.int .i64 x1,.int .i64 x2,.int .i64 x3,.int .i64 x4] 43) = w':=⟨_,rfl⟩
  have z9 : Own w9 wr.heap.size 43 [.int .i64 x1,.int .i64 x2,.int .i64 x3,.int .i64 x4]:=e_w9 ▸ Own.made wr 43 [.int .i64 x1,.int .i64 x2,.int .i64 x3,.int .i64 x4]
  have b9 : Below wr.heap.size wr w9:=e_w9 ▸ zaa _ _
  rw [e_w9]
  have H4:=zam HROW.out b9
  have H3:=Below.step HBR.out b9
  have Hb:=HBR.out.size
  have Ht : vt.ownBlock ≠ some wr.heap.size:=fun e => by have:=(HROW.out.lt _ e).2; omega
  clear e_w9 b9 a0 a1 d1 d2 d3 d4 hA HROW HBR
  obtain ⟨s9,hs9⟩ : ∃ s9,wr.heap.size = s9:=⟨_,rfl⟩
  rw [hs9] at z9 Hb Ht ⊢
  have Hx:=Lib.hid Ht
  clear Ht
  clear hs9
  have c0 : w9.cell? ⟨s9,0,none⟩ = some (.int .i64 x1):=z9.cell 0
  have c1 : w9.cell? ⟨s9,1,none⟩ = some (.int .i64 x2):=z9.cell 1
  have c2 : w9.cell? ⟨s9,2,none⟩ = some (.int .i64 x3):=z9.cell 2
  have c3 : w9.cell? ⟨s9,3,none⟩ = some (.int .i64 x4):=z9.cell 3
  go_wp2_with fail
  refine (zbO x1 x2 x3 x4 _).mono ?_
  rintro en w10 ⟨gy,mu,rfl,_,HMU,hm3,_,b⟩
  clear c0 c1 c2 c3
  replace z9:=z9.below b z9.lt
  have H4:=zam H4 b
  replace H3:=Below.step H3 b
  clear b
  have hmu : mu = 0 ∨ mu = 1 ∨ mu = 2 ∨ mu = 3:=by omega
  rcases hmu with rfl | rfl | rfl | rfl
  ·have Hk : Hid (mvN P ⟨x1,x2,x3,x4⟩ = ⟨x1,x2,x3,x4⟩):=Lib.hid (by
    rw [mv_m0 HMU.out.symm])
   go_upto_region 25 with fail
   have c0 : w10.cell? ⟨s9,0,none⟩ = some (.int .i64 x1):=z9.cell 0
   have c1 : w10.cell? ⟨s9,1,none⟩ = some (.int .i64 x2):=z9.cell 1
   have c2 : w10.cell? ⟨s9,2,none⟩ = some (.int .i64 x3):=z9.cell 2
   have c3 : w10.cell? ⟨s9,3,none⟩ = some (.int .i64 x4):=z9.cell 3
   have Hc:=zcr N B i
   obtain ⟨k,hk⟩ : ∃ k,(kpL N B i).length = k:=⟨_,rfl⟩
   have HK:=Lib.hid hk
   rw [hk] at H4 Hc
   clear hk
   obtain ⟨w14,e14⟩ : ∃ w',w10.alloc (.cells #[.int .i64 x1,.int .i64 x2,.int .i64 x3,.int .i64 x4] 43) = w':=⟨_,rfl⟩
   have Hd : Below w10.heap.size w10 w14:=e14 ▸ zaa _ _
   have He:=zam H4 Hd
   have H9:=Below.step H3 Hd
   have H7:=Bx.ns (L:=[⟨x1,x2,x3,x4⟩]) (e14 ▸ Bx.made_k w10 rfl #[.int .i64 x1,.int .i64 x2,.int .i64 x3,.int .i64 x4] 43)
   have H2 : w5.heap.size ≤ w14.heap.size:=H9.size
   have H8 : ∀ ad : Addr,(some ⟨w10.heap.size,0,none⟩ : Option Addr) = some ad → ∀ (j : Nat) (u : Value),(ndC ⟨x1,x2,x3,x4⟩)[j]? = some u → w14.cell? (ad.add j) = some u:=fun ad e j u hu => H7.cells ad e j u (by simpa using hu)
   have H6 : ∀ u ∈ ndC ⟨x1,x2,x3,x4⟩,u.oneCell' = true:=fun u hu => zdG [⟨x1,x2,x3,x4⟩] u (by simpa using hu)
   have Ha : k + 1 ≤ 1000000:=by omega
   go_wp2_with (at_builtin; refine zax (A:=some ⟨w10.heap.size,0,none⟩) (m:=1) (c:=1) rfl _ _ 22 rfl zbX (by omega) (by omega) w5.heap.size _ _ _ rfl He (ndC ⟨x1,x2,x3,x4⟩) rfl (fun e => by cases e) rfl H8 H6 Ha H2 ?_; intro v15 w15 R15 G15)
   have Hn:=H9.grown G15 H9.size (fun k hk => (He.lt k hk).1)
   have eT : ((kpL N B i).map (mvN P)).flatMap ndC ++ ndC ⟨x1,x2,x3,x4⟩ = ((kpL N B (i + 1)).map (mvN P)).flatMap ndC:=by rw [zeD HU.out,List.map_append,List.flatMap_append,K2.out]; simp only [List.map_cons,List.map_nil,Hk.out,List.flatMap_cons,List.flatMap_nil,List.append_nil]
   have eL : k + 1 = (kpL N B (i + 1)).length:=by rw [zeD HU.out,List.length_append,HK.out]; rfl
   rw [eT,eL] at R15
   have Hf:=Lib.hid R15
   have Hh:=Lib.hid Hn
   clear R15 Hn G15 He H9 H7 H8 H6 H2 e14 Hd eT eL c0 c1 c2 c3 H4 H3 z9
   go_roundw
   case rel => exact ⟨v15,i + 1,rfl,by omega,by go_num,Hf,Hh⟩
   case measure => simp [intOf]; omega
  ·have Hq : x2 ∈ zag ⟨x1,x2,x3,x4⟩:=by unfold zag; rw [← HMU.out]; simp
   obtain ⟨m0,e0,hm0⟩:=Hw.out x2 Hq
   obtain ⟨bp0,op0,ep0,ip0⟩:=hby.iat hm0
   obtain rfl : op0 = 0:=(Hg.out _ _ ep0).2
   rw [Nat.zero_add] at ip0
   have Hk : Hid (mvN P ⟨x1,x2,x3,x4⟩ = ⟨x1,P.getD m0 0,x3,x4⟩):=Lib.hid (by
    rw [mv_m1 HMU.out.symm]
    rw [e0,zaS])
   obtain ⟨y0,hy0⟩ : ∃ y,P.getD m0 0 = y:=⟨_,rfl⟩
   rw [hy0] at Hk ip0
   clear hy0
   subst ep0
   have Hz : (0 : Int) ≤ (m0 : Int):=by omega
   have Hy : (m0 : Int) < (j : Int):=by omega
   rw [e0] at z9
   clear Hq
   have j1 : _ = some (Value.int .i64 (m0 : Int)):=z9.cell 1
   have j2:=(ip0.on H3).2
   have f1:=z9.free 1
   go_upto_region 21 with fail
   have H5:=z9.put 1 (.int .i64 y0)
   have H0:=zbp H4 Hx.out 1 (.int .i64 y0)
   have H1:=H3.setCell (p:=⟨s9,1,none⟩) Hb (.int .i64 y0)
   obtain ⟨w11,e_n⟩ : ∃ w',w10.setCell ⟨s9,1,none⟩ (.int .i64 y0) = w':=⟨_,rfl⟩
   rw [e_n] at H5 H0 H1 ⊢
   replace z9 : Own w11 s9 43 [.int .i64 x1,.int .i64 y0,.int .i64 x3,.int .i64 x4]:=H5
   replace H4:=H0
   replace H3:=H1
   clear e_n H5 H0 H1 j1 j2 f1
   go_upto_region 25 with fail
   have c0 : w11.cell? ⟨s9,0,none⟩ = some (.int .i64 x1):=z9.cell 0
   have c1 : w11.cell? ⟨s9,1,none⟩ = some (.int .i64 y0):=z9.cell 1
   have c2 : w11.cell? ⟨s9,2,none⟩ = some (.int .i64 x3):=z9.cell 2
   have c3 : w11.cell? ⟨s9,3,none⟩ = some (.int .i64 x4):=z9.cell 3
   have Hc:=zcr N B i
   obtain ⟨k,hk⟩ : ∃ k,(kpL N B i).length = k:=⟨_,rfl⟩
   have HK:=Lib.hid hk
   rw [hk] at H4 Hc
   clear hk
   obtain ⟨w14,e14⟩ : ∃ w',w11.alloc (.cells #[.int .i64 x1,.int .i64 y0,.int .i64 x3,.int .i64 x4] 43) = w':=⟨_,rfl⟩
   have Hd : Below w11.heap.size w11 w14:=e14 ▸ zaa _ _
   have He:=zam H4 Hd
   have H9:=Below.step H3 Hd
   have H7:=Bx.ns (L:=[⟨x1,y0,x3,x4⟩]) (e14 ▸ Bx.made_k w11 rfl #[.int .i64 x1,.int .i64 y0,.int .i64 x3,.int .i64 x4] 43)
   have H2 : w5.heap.size ≤ w14.heap.size:=H9.size
   have H8 : ∀ ad : Addr,(some ⟨w11.heap.size,0,none⟩ : Option Addr) = some ad → ∀ (j : Nat) (u : Value),(ndC ⟨x1,y0,x3,x4⟩)[j]? = some u → w14.cell? (ad.add j) = some u:=fun ad e j u hu => H7.cells ad e j u (by simpa using hu)
   have H6 : ∀ u ∈ ndC ⟨x1,y0,x3,x4⟩,u.oneCell' = true:=fun u hu => zdG [⟨x1,y0,x3,x4⟩] u (by simpa using hu)
   have Ha : k + 1 ≤ 1000000:=by omega
   go_wp2_with (at_builtin; refine zax (A:=some ⟨w11.heap.size,0,none⟩) (m:=1) (c:=1) rfl _ _ 22 rfl zbX (by omega) (by omega) w5.heap.size _ _ _ rfl He (ndC ⟨x1,y0,x3,x4⟩) rfl (fun e => by cases e) rfl H8 H6 Ha H2 ?_; intro v15 w15 R15 G15)
   have Hn:=H9.grown G15 H9.size (fun k hk => (He.lt k hk).1)
   have eT : ((kpL N B i).map (mvN P)).flatMap ndC ++ ndC ⟨x1,y0,x3,x4⟩ = ((kpL N B (i + 1)).map (mvN P)).flatMap ndC:=by rw [zeD HU.out,List.map_append,List.flatMap_append,K2.out]; simp only [List.map_cons,List.map_nil,Hk.out,List.flatMap_cons,List.flatMap_nil,List.append_nil]
   have eL : k + 1 = (kpL N B (i + 1)).length:=by rw [zeD HU.out,List.length_append,HK.out]; rfl
   rw [eT,eL] at R15
   have Hf:=Lib.hid R15
   have Hh:=Lib.hid Hn
   clear R15 Hn G15 He H9 H7 H8 H6 H2 e14 Hd eT eL c0 c1 c2 c3 H4 H3 z9
   go_roundw
   case rel => exact ⟨v15,i + 1,rfl,by omega,by go_num,Hf,Hh⟩
   case measure => simp [intOf]; omega
  ·have Hq : x2 ∈ zag ⟨x1,x2,x3,x4⟩:=by unfold zag; rw [← HMU.out]; simp
   have K0 : x3 ∈ zag ⟨x1,x2,x3,x4⟩:=by unfold zag; rw [← HMU.out]; simp
   obtain ⟨m0,e0,hm0⟩:=Hw.out x2 Hq
   obtain ⟨bp0,op0,ep0,ip0⟩:=hby.iat hm0
   obtain rfl : op0 = 0:=(Hg.out _ _ ep0).2
   rw [Nat.zero_add] at ip0
   obtain ⟨m1,e1,hm1⟩:=Hw.out x3 K0
   obtain ⟨bp1,op1,ep1,ip1⟩:=hby.iat hm1
   obtain rfl : op1 = 0:=(Hg.out _ _ ep1).2
   rw [Nat.zero_add] at ip1
   obtain rfl : bp0 = bp1:=by
    rw [ep0] at ep1
    injection ep1 with ep1
    injection ep1
   have Hk : Hid (mvN P ⟨x1,x2,x3,x4⟩ = ⟨x1,P.getD m0 0,P.getD m1 0,x4⟩):=Lib.hid (by
    rw [mv_m2 HMU.out.symm]
    rw [e0,zaS,e1,zaS])
   obtain ⟨y0,hy0⟩ : ∃ y,P.getD m0 0 = y:=⟨_,rfl⟩
   rw [hy0] at Hk ip0
   clear hy0
   obtain ⟨y1,hy1⟩ : ∃ y,P.getD m1 0 = y:=⟨_,rfl⟩
   rw [hy1] at Hk ip1
   clear hy1
   subst ep0
   have Hz : (0 : Int) ≤ (m0 : Int):=by omega
   have Hy : (m0 : Int) < (j : Int):=by omega
   have K9 : (0 : Int) ≤ (m1 : Int):=by omega
   have K8 : (m1 : Int) < (j : Int):=by omega
   rw [e0,e1] at z9
   clear Hq K0
   have j1 : _ = some (Value.int .i64 (m0 : Int)):=z9.cell 1
   have j2:=(ip0.on H3).2
   have f1:=z9.free 1
   go_upto_region 21 with fail
   have H5:=z9.put 1 (.int .i64 y0)
   have H0:=zbp H4 Hx.out 1 (.int .i64 y0)
   have H1:=H3.setCell (p:=⟨s9,1,none⟩) Hb (.int .i64 y0)
   obtain ⟨w11,e_n⟩ : ∃ w',w10.setCell ⟨s9,1,none⟩ (.int .i64 y0) = w':=⟨_,rfl⟩
   rw [e_n] at H5 H0 H1 ⊢
   replace z9 : Own w11 s9 43 [.int .i64 x1,.int .i64 y0,.int .i64 (m1 : Int),.int .i64 x4]:=H5
   replace H4:=H0
   replace H3:=H1
   clear e_n H5 H0 H1 j1 j2 f1
   have j1 : _ = some (Value.int .i64 (m1 : Int)):=z9.cell 2
   have j2:=(ip1.on H3).2
   have f1:=z9.free 2
   go_upto_region 23 with fail
   have H5:=z9.put 2 (.int .i64 y1)
   have H0:=zbp H4 Hx.out 2 (.int .i64 y1)
   have H1:=H3.setCell (p:=⟨s9,2,none⟩) Hb (.int .i64 y1)
   obtain ⟨w12,e_n⟩ : ∃ w',w11.setCell ⟨s9,2,none⟩ (.int .i64 y1) = w':=⟨_,rfl⟩
   rw [e_n] at H5 H0 H1 ⊢
   replace z9 : Own w12 s9 43 [.int .i64 x1,.int .i64 y0,.int .i64 y1,.int .i64 x4]:=H5
   replace H4:=H0
   replace H3:=H1
   clear e_n H5 H0 H1 j1 j2 f1
   go_upto_region 25 with fail
   have c0 : w12.cell? ⟨s9,0,none⟩ = some (.int .i64 x1):=z9.cell 0
   have c1 : w12.cell? ⟨s9,1,none⟩ = some (.int .i64 y0):=z9.cell 1
   have c2 : w12.cell? ⟨s9,2,none⟩ = some (.int .i64 y1):=z9.cell 2
   have c3 : w12.cell? ⟨s9,3,none⟩ = some (.int .i64 x4):=z9.cell 3
   have Hc:=zcr N B i
   obtain ⟨k,hk⟩ : ∃ k,(kpL N B i).length = k:=⟨_,rfl⟩
   have HK:=Lib.hid hk
   rw [hk] at H4 Hc
   clear hk
   obtain ⟨w14,e14⟩ : ∃ w',w12.alloc (.cells #[.int .i64 x1,.int .i64 y0,.int .i64 y1,.int .i64 x4] 43) = w':=⟨_,rfl⟩
   have Hd : Below w12.heap.size w12 w14:=e14 ▸ zaa _ _
   have He:=zam H4 Hd
   have H9:=Below.step H3 Hd
   have H7:=Bx.ns (L:=[⟨x1,y0,y1,x4⟩]) (e14 ▸ Bx.made_k w12 rfl #[.int .i64 x1,.int .i64 y0,.int .i64 y1,.int .i64 x4] 43)
   have H2 : w5.heap.size ≤ w14.heap.size:=H9.size
   have H8 : ∀ ad : Addr,(some ⟨w12.heap.size,0,none⟩ : Option Addr) = some ad → ∀ (j : Nat) (u : Value),(ndC ⟨x1,y0,y1,x4⟩)[j]? = some u → w14.cell? (ad.add j) = some u:=fun ad e j u hu => H7.cells ad e j u (by simpa using hu)
   have H6 : ∀ u ∈ ndC ⟨x1,y0,y1,x4⟩,u.oneCell' = true:=fun u hu => zdG [⟨x1,y0,y1,x4⟩] u (by simpa using hu)
   have Ha : k + 1 ≤ 1000000:=by omega
   go_wp2_with (at_builtin; refine zax (A:=some ⟨w12.heap.size,0,none⟩) (m:=1) (c:=1) rfl _ _ 22 rfl zbX (by omega) (by omega) w5.heap.size _ _ _ rfl He (ndC ⟨x1,y0,y1,x4⟩) rfl (fun e => by cases e) rfl H8 H6 Ha H2 ?_; intro v15 w15 R15 G15)
   have Hn:=H9.grown G15 H9.size (fun k hk => (He.lt k hk).1)
   have eT : ((kpL N B i).map (mvN P)).flatMap ndC ++ ndC ⟨x1,y0,y1,x4⟩ = ((kpL N B (i + 1)).map (mvN P)).flatMap ndC:=by rw [zeD HU.out,List.map_append,List.flatMap_append,K2.out]; simp only [List.map_cons,List.map_nil,Hk.out,List.flatMap_cons,List.flatMap_nil,List.append_nil]
   have eL : k + 1 = (kpL N B (i + 1)).length:=by rw [zeD HU.out,List.length_append,HK.out]; rfl
   rw [eT,eL] at R15
   have Hf:=Lib.hid R15
   have Hh:=Lib.hid Hn
   clear R15 Hn G15 He H9 H7 H8 H6 H2 e14 Hd eT eL c0 c1 c2 c3 H4 H3 z9
   go_roundw
   case rel => exact ⟨v15,i + 1,rfl,by omega,by go_num,Hf,Hh⟩
   case measure => simp [intOf]; omega
  have Hq : x2 ∈ zag ⟨x1,x2,x3,x4⟩:=by unfold zag; rw [← HMU.out]; simp
  have K0 : x3 ∈ zag ⟨x1,x2,x3,x4⟩:=by unfold zag; rw [← HMU.out]; simp
  have hu2 : x4 ∈ zag ⟨x1,x2,x3,x4⟩:=by unfold zag; rw [← HMU.out]; simp
  obtain ⟨m0,e0,hm0⟩:=Hw.out x2 Hq
  obtain ⟨bp0,op0,ep0,ip0⟩:=hby.iat hm0
  obtain rfl : op0 = 0:=(Hg.out _ _ ep0).2
  rw [Nat.zero_add] at ip0
  obtain ⟨m1,e1,hm1⟩:=Hw.out x3 K0
  obtain ⟨bp1,op1,ep1,ip1⟩:=hby.iat hm1
  obtain rfl : op1 = 0:=(Hg.out _ _ ep1).2
  rw [Nat.zero_add] at ip1
  obtain ⟨m2,e2,hm2⟩:=Hw.out x4 hu2
  obtain ⟨bp2,op2,ep2,ip2⟩:=hby.iat hm2
  obtain rfl : op2 = 0:=(Hg.out _ _ ep2).2
  rw [Nat.zero_add] at ip2
  obtain rfl : bp0 = bp1:=by
   rw [ep0] at ep1
   injection ep1 with ep1
   injection ep1
  obtain rfl : bp0 = bp2:=by
   rw [ep0] at ep2
   injection ep2 with ep2
   injection ep2
  have Hk : Hid (mvN P ⟨x1,x2,x3,x4⟩ = ⟨x1,P.getD m0 0,P.getD m1 0,P.getD m2 0⟩):=Lib.hid (by
   rw [mv_m3 HMU.out.symm]
   rw [e0,zaS,e1,zaS,e2,zaS])
  obtain ⟨y0,hy0⟩ : ∃ y,P.getD m0 0 = y:=⟨_,rfl⟩
  rw [hy0] at Hk ip0
  clear hy0
  obtain ⟨y1,hy1⟩ : ∃ y,P.getD m1 0 = y:=⟨_,rfl⟩
  rw [hy1] at Hk ip1
  clear hy1
  obtain ⟨y2,hy2⟩ : ∃ y,P.getD m2 0 = y:=⟨_,rfl⟩
  rw [hy2] at Hk ip2
  clear hy2
  subst ep0
  have Hz : (0 : Int) ≤ (m0 : Int):=by omega
  have Hy : (m0 : Int) < (j : Int):=by omega
  have K9 : (0 : Int) ≤ (m1 : Int):=by omega
  have K8 : (m1 : Int) < (j : Int):=by omega
  have hx20 : (0 : Int) ≤ (m2 : Int):=by omega
  have hx21 : (m2 : Int) < (j : Int):=by omega
  rw [e0,e1,e2] at z9
  clear Hq K0 hu2
  have j1 : _ = some (Value.int .i64 (m0 : Int)):=z9.cell 1
  have j2:=(ip0.on H3).2
  have f1:=z9.free 1
  go_upto_region 21 with fail
  have H5:=z9.put 1 (.int .i64 y0)
  have H0:=zbp H4 Hx.out 1 (.int .i64 y0)
  have H1:=H3.setCell (p:=⟨s9,1,none⟩) Hb (.int .i64 y0)
  obtain ⟨w11,e_n⟩ : ∃ w',w10.setCell ⟨s9,1,none⟩ (.int .i64 y0) = w':=⟨_,rfl⟩
  rw [e_n] at H5 H0 H1 ⊢
  replace z9 : Own w11 s9 43 [.int .i64 x1,.int .i64 y0,.int .i64 (m1 : Int),.int .i64 (m2 : Int)]:=H5
  replace H4:=H0
  replace H3:=H1
  clear e_n H5 H0 H1 j1 j2 f1
  have j1 : _ = some (Value.int .i64 (m1 : Int)):=z9.cell 2
  have j2:=(ip1.on H3).2
  have f1:=z9.free 2
  go_upto_region 23 with fail
  have H5:=z9.put 2 (.int .i64 y1)
  have H0:=zbp H4 Hx.out 2 (.int .i64 y1)
  have H1:=H3.setCell (p:=⟨s9,2,none⟩) Hb (.int .i64 y1)
  obtain ⟨w12,e_n⟩ : ∃ w',w11.setCell ⟨s9,2,none⟩ (.int .i64 y1) = w':=⟨_,rfl⟩
  rw [e_n] at H5 H0 H1 ⊢
  replace z9 : Own w12 s9 43 [.int .i64 x1,.int .i64 y0,.int .i64 y1,.int .i64 (m2 : Int)]:=H5
  replace H4:=H0
  replace H3:=H1
  clear e_n H5 H0 H1 j1 j2 f1
  have j1 : _ = some (Value.int .i64 (m2 : Int)):=z9.cell 3
  have j2:=(ip2.on H3).2
  have f1:=z9.free 3
  go_upto_region 25 with fail
  have H5:=z9.put 3 (.int .i64 y2)
  have H0:=zbp H4 Hx.out 3 (.int .i64 y2)
  have H1:=H3.setCell (p:=⟨s9,3,none⟩) Hb (.int .i64 y2)
  obtain ⟨w13,e_n⟩ : ∃ w',w12.setCell ⟨s9,3,none⟩ (.int .i64 y2) = w':=⟨_,rfl⟩
  rw [e_n] at H5 H0 H1 ⊢
  replace z9 : Own w13 s9 43 [.int .i64 x1,.int .i64 y0,.int .i64 y1,.int .i64 y2]:=H5
  replace H4:=H0
  replace H3:=H1
  clear e_n H5 H0 H1 j1 j2 f1
  have c0 : w13.cell? ⟨s9,0,none⟩ = some (.int .i64 x1):=z9.cell 0
  have c1 : w13.cell? ⟨s9,1,none⟩ = some (.int .i64 y0):=z9.cell 1
  have c2 : w13.cell? ⟨s9,2,none⟩ = some (.int .i64 y1):=z9.cell 2
  have c3 : w13.cell? ⟨s9,3,none⟩ = some (.int .i64 y2):=z9.cell 3
  have Hc:=zcr N B i
  obtain ⟨k,hk⟩ : ∃ k,(kpL N B i).length = k:=⟨_,rfl⟩
  have HK:=Lib.hid hk
  rw [hk] at H4 Hc
  clear hk
  obtain ⟨w14,e14⟩ : ∃ w',w13.alloc (.cells #[.int .i64 x1,.int .i64 y0,.int .i64 y1,.int .i64 y2] 43) = w':=⟨_,rfl⟩
  have Hd : Below w13.heap.size w13 w14:=e14 ▸ zaa _ _
  have He:=zam H4 Hd
  have H9:=Below.step H3 Hd
  have H7:=Bx.ns (L:=[⟨x1,y0,y1,y2⟩]) (e14 ▸ Bx.made_k w13 rfl #[.int .i64 x1,.int .i64 y0,.int .i64 y1,.int .i64 y2] 43)
  have H2 : w5.heap.size ≤ w14.heap.size:=H9.size
  have H8 : ∀ ad : Addr,(some ⟨w13.heap.size,0,none⟩ : Option Addr) = some ad → ∀ (j : Nat) (u : Value),(ndC ⟨x1,y0,y1,y2⟩)[j]? = some u → w14.cell? (ad.add j) = some u:=fun ad e j u hu => H7.cells ad e j u (by simpa using hu)
  have H6 : ∀ u ∈ ndC ⟨x1,y0,y1,y2⟩,u.oneCell' = true:=fun u hu => zdG [⟨x1,y0,y1,y2⟩] u (by simpa using hu)
  have Ha : k + 1 ≤ 1000000:=by omega
  go_wp2_with (at_builtin; refine zax (A:=some ⟨w13.heap.size,0,none⟩) (m:=1) (c:=1) rfl _ _ 22 rfl zbX (by omega) (by omega) w5.heap.size _ _ _ rfl He (ndC ⟨x1,y0,y1,y2⟩) rfl (fun e => by cases e) rfl H8 H6 Ha H2 ?_; intro v15 w15 R15 G15)
  have Hn:=H9.grown G15 H9.size (fun k hk => (He.lt k hk).1)
  have eT : ((kpL N B i).map (mvN P)).flatMap ndC ++ ndC ⟨x1,y0,y1,y2⟩ = ((kpL N B (i + 1)).map (mvN P)).flatMap ndC:=by rw [zeD HU.out,List.map_append,List.flatMap_append,K2.out]; simp only [List.map_cons,List.map_nil,Hk.out,List.flatMap_cons,List.flatMap_nil,List.append_nil]
  have eL : k + 1 = (kpL N B (i + 1)).length:=by rw [zeD HU.out,List.length_append,HK.out]; rfl
  rw [eT,eL] at R15
  have Hf:=Lib.hid R15
  have Hh:=Lib.hid Hn
  clear R15 Hn G15 He H9 H7 H8 H6 H2 e14 Hd eT eL c0 c1 c2 c3 H4 H3 z9
  go_roundw
  case rel => exact ⟨v15,i + 1,rfl,by omega,by go_num,Hf,Hh⟩
  case measure => simp [intOf]; omega
 obtain rfl : i = j:=by omega
 have hin : ¬ (i : Int) < (i : Int):=by omega
 have Kd:=HROW.out
 rw [← HLK.out] at Kd
 obtain ⟨Al,cl,rfl,swl,hoff2,Ho⟩:=zbj Kd
 clear Kd
 have z6:=z5.on HBR.out
 have h6:=h5.on HBR.out
 have Hj:=K5.below HBR.out K5.lt
 have Hp:=K7.trans (HBR.out.mono K7.size)
 have Hs:=hby.on HBR.out
 have HSL:=Lib.hid swl
 have HHF:=Lib.hid hoff2
 have hs15:=K5.lt
 have Kb : w5.heap.size ≤ wr.heap.size:=HBR.out.size
 clear hoff2 HROW HBR z5 h5 K5 K7 G5 swl swb Hg hby
 have q1 : IntKind.i64.wrap ((i : Int) - (kk : Int)) = (i : Int) - (kk : Int):=by rw [IntKind.wrap_i64]; omega
 have HPI : Hid ((∀ p ∈ I,Plc i p.bits) ∧ ∀ p ∈ O,Plc i p.bits):=Lib.hid (by
  have hp:=zcR LX.out
  rw [HLN.out] at hp
  exact ⟨fun p hp1 y hy => hp y (List.mem_append_left _ (List.mem_flatMap.2 ⟨p,hp1,hy⟩)),fun p hp1 y hy => hp y (List.mem_append_right _ (List.mem_flatMap.2 ⟨p,hp1,hy⟩))⟩)
 go_upto_region 26 with fail
 refine LexG.region_planU (KB3.ok w.heap.size w.heap.size w.heap.size) [4,8,14] [0,1,2,3,5,6,7,10,11,12,13,4,8,9,14,15,16] (h:=?_)
 dsimp only [LexG.pick,LexG.nth]
 have bd : Below wr.heap.size wr wr.drew:=(Below.refl _ _).drew
 replace z6:=z6.on bd
 replace h6:=h6.on bd
 replace Hj:=Hj.below bd Hj.lt
 replace Hp:=Below.step Hp bd
 replace Hs:=Hs.on bd
 replace Ho:=Ho.on bd
 obtain ⟨w7,e7⟩ : ∃ w',wr.drew = w':=⟨_,rfl⟩
 rw [e7] at z6 h6 Hj Hp Hs Ho bd ⊢
 have K1 : w5.heap.size ≤ w7.heap.size:=Nat.le_trans Kb bd.size
 clear e7 bd
 have lf1:=fun s : LexG.Wd (KB3 w.heap.size w.heap.size w.heap.size) w7 => (show s.w.cell? ⟨w.heap.size,1,none⟩ = some (Value.slice Ai ni ci) from (zac s.rel.1 1).trans z6.n1)
 have lf2:=fun s : LexG.Wd (KB3 w.heap.size w.heap.size w.heap.size) w7 => (show s.w.cell? ⟨w.heap.size,2,none⟩ = some (Value.slice Ao no co) from (zac s.rel.1 2).trans z6.n2)
 refine LexG.lexU_plain 11 (by kernel_rfl) (by kernel_rfl) ?_
 dsimp only [List.take,List.drop]
 repeat go_big_quiet_step (fail)
 refine wpQuiet_nil ?_
 clear lf1 lf2
 refine LexG.lexU_call (h:=fun K hK => ?_)
 go_simp
 refine (zci h6.i hni (fun p hp => HB.out p (List.mem_append_left _ hp)) Hs HPI.out.1).mono ?_
 rintro en w8 ⟨Bi,di,rfl,Hv,swi,b⟩
 replace Hv:=Hv.mono K1
 have Ka : w5.heap.size ≤ w8.heap.size:=Nat.le_trans K1 b.size
 dsimp only
 have kb:=b.block _ z6.1
 refine hK _ _ ⟨kb,kb,kb⟩ ?_
 clear kb
 clear hK K
 replace z6:=z6.on b
 replace h6:=h6.on b
 replace Hj:=Hj.below b Hj.lt
 replace Hp:=Below.step Hp b
 replace Hs:=Hs.on b
 replace Ho:=Ho.on b
 clear b
 refine LexG.lexU_call (h:=fun K hK => ?_)
 go_simp
 refine (zci h6.o hno (fun p hp => HB.out p (List.mem_append_right _ hp)) Hs HPI.out.2).mono ?_
 rintro en w9 ⟨Bo,do',rfl,K3,swo,b⟩
 replace K3:=K3.mono Ka
 dsimp only
 have kb:=b.block _ z6.1
 refine hK _ _ ⟨kb,kb,kb⟩ ?_
 clear kb
 clear hK K
 replace Hj:=Hj.below b Hj.lt
 replace Hp:=Below.step Hp b
 replace Hv:=Hv.on b
 replace Ho:=Ho.on b
 clear b z6 h6 Hs
 refine LexG.lexU_plain 1 (by kernel_rfl) (by kernel_rfl) ?_
 dsimp only [List.take,List.drop]
 repeat go_big_quiet_step (fail)
 refine wpQuiet_nil ?_
 obtain ⟨f0,f1,f2⟩:=Hj.zof0f1f2
 obtain ⟨p0,p1,p2⟩:=Hj.zo3
 refine LexG.lexU_call (h:=fun K hK => ?_)
 go_simp
 have kb : (((w9.setCell ⟨s1,0,none⟩ (.slice Al kk cl)).setCell ⟨s1,1,none⟩ (.slice Bi ni di)).setCell ⟨s1,2,none⟩ (.slice Bo no do')).heap[w.heap.size]? = w9.heap[w.heap.size]?:=by
  rw [Below.heap_setCell _ _ _ _ hn01,Below.heap_setCell _ _ _ _ hn01,Below.heap_setCell _ _ _ _ hn01]
 refine hK _ _ ⟨kb,kb,kb⟩ ?_
 clear kb
 clear hK K f0 f1 f2 p0 p1 p2
 have VR:=Hj.p3' (.slice Al kk cl) (.slice Bi ni di) (.slice Bo no do')
 have BW7:=Hp.e3' hws (.slice Al kk cl) (.slice Bi ni di) (.slice Bo no do')
 refine LexG.lexU_plain 2 (by kernel_rfl) (by kernel_rfl) ?_
 dsimp only [List.take,List.drop]
 repeat go_big_quiet_step (fail)
 refine wpQuiet_nil ?_
 refine LexG.lexU_nil ?_
 dsimp only [NoPanic]
 obtain ⟨w10,e10⟩ : ∃ w',((w9.setCell ⟨s1,0,none⟩ (.slice Al kk cl)).setCell ⟨s1,1,none⟩ (.slice Bi ni di)).setCell ⟨s1,2,none⟩ (.slice Bo no do') = w':=⟨_,rfl⟩
 have K4 : ∀ b,w5.heap.size ≤ b → b < w9.heap.size → w10.heap[b]? = w9.heap[b]?:=fun b hb _ => by
  have Kc : b ≠ s1:=by omega
  rw [← e10,Below.heap_setCell _ _ _ _ Kc,Below.heap_setCell _ _ _ _ Kc,Below.heap_setCell _ _ _ _ Kc]
 have Hi : w9.heap.size ≤ w10.heap.size:=by rw [← e10]; simp [World.setCell]
 rw [e10] at VR BW7 ⊢
 have Hr:=Ho.by_ (s:=w5.heap.size) (fun b off e => (HHF.out b off e).1) Hi K4
 have Hm:=Hv.by_ Hi K4
 have Hl:=K3.by_ Hi K4
 have Hu : w.heap.size ≤ w5.heap.size:=HLO.out
 have HFN : Hid (NtH w.heap.size w10 Al kk cl Bi ni di Bo no do' ((kpL N B i).map (mvN (plS N B i i))) (I.map (outF (plS N B i i))) (O.map (outF (plS N B i i)))):=Lib.hid (by
  have x1:=by_nodes K6.out.1
  have x2:=by_ports (N:=N) K6.out.2.1
  have x3:=by_ports (N:=N) K6.out.2.2
  rw [HP.out] at x1 x2 x3
  rw [← x1,← x2,← x3]
  refine ⟨⟨Hr,Hm.ps,Hl.ps,swi,swo,by omega,HHS.out,fun p hp => ?_⟩,fun b off e => Nat.le_trans Hu (HHF.out b off e).1,Hm.mono Hu,Hl.mono Hu⟩
  rw [← List.map_append] at hp
  obtain ⟨p0,hp0,rfl⟩:=List.mem_map.1 hp
  unfold outF
  rw [List.length_map]
  exact HNB.out p0 hp0)
 clear Hr Hm Hl K4 Hi e10 Ho Hv K3 Hj Hp
 obtain ⟨p0,p1,p2⟩:=VR.zo3
 go_wp2_with fail
 refine bodyPost_ret (v:=.tuple #[.agg #[.slice Al kk cl,.slice Bi ni di,.slice Bo no do'],.int .i64 ((i : Int) - (kk : Int)),.int .i64 0]) (by simp [results,Try.results27,go_sem,p0,p1,p2]) rfl ⟨?_,BW7⟩
 unfold SwH
 exact ⟨B,Al,kk,cl,Bi,di,Bo,do',rfl,hlb,HRC.out,HLK.out.symm,HFN.out,HSL.out⟩
end Go.Proofs.Ytcehklnonhalhaa
