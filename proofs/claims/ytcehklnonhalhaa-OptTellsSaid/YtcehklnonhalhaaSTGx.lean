/-
  What the proofs of OptTells need: Gx Gy Gz.
-/
import Derived.Test.YtcehklnonhalhaaSTGt
set_option linter.unusedVariables false
namespace Go.Proofs.Ytcehklnonhalhaa
open Go.RowKit
set_option maxRecDepth 4000
def zba (x : Nd) : Bool:=if x.k = 0 then bitS x.a && (x.b == 0 && x.c == 0) else if x.k = 7 then bitS x.b && x.c == 0 else (decide (1 ≤ zau x.k) || x.a == 0) && ((decide (2 ≤ zau x.k) || x.b == 0) && (decide (3 ≤ zau x.k) || x.c == 0))
def zaQ (n : Int) (x : Nd) : Bool:=za8 x.k && ((zag x).all (zaj n) && zba x)
theorem right_formed (n : Int) (x : Nd) : zaQ n x = zaf n x:=by
 obtain ⟨k,p,q,r⟩:=x
 unfold zaQ zaf
 cases hk : za8 k with
 | false => simp only [Bool.false_and]
 | true =>
  have h8 : k = 0 ∨ k = 1 ∨ k = 2 ∨ k = 3 ∨ k = 4 ∨ k = 5 ∨ k = 6 ∨ k = 7:=by
   unfold za8 at hk
   simp only [Bool.and_eq_true,decide_eq_true_eq] at hk
   omega
  simp only [Bool.true_and]
  rw [Bool.eq_iff_iff]
  rcases h8 with rfl | rfl | rfl | rfl | rfl | rfl | rfl | rfl <;> simp [zba,za6,zcd,zcS,zag,zau] <;> (try constructor) <;> (try intros) <;> (try simp_all)
set_option maxHeartbeats 2000000 in
theorem rright_0 {k p q r : Int} {w : World} (n : Nat) (hn : n ≤ 1000000) (e0 : (k == 0) = true) (h0k : Hid (k = 0)) (hms : zau k = 0) (hk : za8 k = true) (v : Bool) (hv : zaQ n ⟨k,p,q,r⟩ = v) :
  Calls Try.prog 105 #[.agg #[.int .i64 k,.int .i64 p,.int .i64 q,.int .i64 r],.int .i64 n] w fun e w' => e = .returned (.bool v) ∧ Below w.heap.size w w':=by
 have HV:=Lib.hid hv
 have HK:=Lib.hid hk
 have HMI : Hid (zbd k = 0):=Lib.hid (by unfold zbd; rw [hk,hms]; rfl)
 clear hv hk
 go_enter Try.func105,Try.ntmps105
 go_upto_region 1 with fail
 obtain ⟨w1,e_w1,z0,BW⟩:=zmB w [.int .i64 k,.int .i64 p,.int .i64 q,.int .i64 r] 43
 rw [e_w1]
 clear e_w1
 have H0:=z0.2 0 _ rfl
 go_wp2_with fail
 refine (zb0 k 0 HMI.out _).mono ?_
 rintro e w2 ⟨rfl,b⟩
 replace z0:=z0.on b
 replace BW:=Below.step BW b
 clear b H0
 obtain ⟨H0,z0c1,z0c2,z0c3⟩:=z0.zb4
 go_wp2_with fail
 refine (zch k p q r _).mono ?_
 rintro e w3 ⟨A,mm,c,rfl,hi,hm3,b⟩
 replace z0:=z0.on b
 replace BW:=Below.step BW b
 clear b H0 z0c1 z0c2 z0c3
 have HLN:=Lib.hid hi.1
 go_wp2_with fail
 go_loopw [7] (fun i wr => ∃ j : Nat,j ≤ mm ∧ i = .int .i64 j ∧ ((zag ⟨k,p,q,r⟩).take j).all (zaj n) = true ∧ Below w3.heap.size w3 wr) (fun i _ => mm - (intOf i).toNat)
 case atStart => exact ⟨0,Nat.zero_le _,rfl,rfl,Below.refl _ _⟩
 obtain ⟨j,hj,rfl,ha,BR⟩:=hrel
 have HA:=Lib.hid ha
 clear ha
 by_cases hlt : j < mm
 ·obtain ⟨b1,off1,x,eA,HX,cx⟩:=(hi.on BR).at hlt
  subst eA
  have hj0 : (0 : Int) ≤ (j : Int):=by omega
  have hjm : (j : Int) < (mm : Int):=by omega
  have key : zaj n x = false → v = false:=fun h => by
   rw [← HV.out]
   unfold zaQ
   rw [zbC HX.out h,Bool.false_and,Bool.and_false]
  have H2:=Lib.hid key
  clear key
  by_cases h0 : x < 0
  case pos =>
   have HE : Hid (v = false):=Lib.hid (H2.out (by unfold zaj; simp; omega))
   go_wp2_with fail
   go_ret
   exact ⟨zad HE.out.symm,Below.step BW BR⟩
  by_cases h1 : (n : Int) ≤ x
  case pos =>
   have HE : Hid (v = false):=Lib.hid (H2.out (by unfold zaj; simp; omega))
   go_wp2_with fail
   go_ret
   exact ⟨zad HE.out.symm,Below.step BW BR⟩
  have HT:=Lib.hid (zbl HA.out HX.out (show zaj n x = true by unfold zaj; simp; omega))
  go_wp2_with fail
  go_roundw
  case rel => exact ⟨j + 1,by omega,by go_num,HT.out,BR⟩
  case measure => simp [intOf]; omega
 have HU : Hid ((zag ⟨k,p,q,r⟩).all (zaj n) = true):=Lib.hid (by have:=HA.out; rwa [List.take_of_length_le (by rw [HLN.out]; omega)] at this)
 replace z0:=z0.on BR
 replace BW:=Below.step BW BR
 obtain ⟨H0,z0c1,z0c2,z0c3⟩:=z0.zb4
 clear BR
 obtain ⟨u,hu⟩ : ∃ u,bitS p = u:=⟨_,rfl⟩
 cases u
 ·have HT : Hid (zba ⟨k,p,q,r⟩ = false):=Lib.hid (by simp [zba,h0k.out,hu])
  have HE : Hid (v = false):=Lib.hid (by rw [← HV.out]; unfold zaQ; rw [HK.out,HU.out,HT.out]; rfl)
  go_wp2_with (go_at_call 122; refine (zbb _ _ hu _).mono ?_; rintro e w9 ⟨rfl,b9⟩; obtain ⟨z0c0',z0c1',z0c2',z0c3'⟩:=(z0.on b9).zb4; have H1:=Below.step BW b9)
  go_ret
  exact ⟨zad HE.out.symm,H1⟩
 by_cases hq : q = 0
 case neg =>
  have gq:=zae hq
  have HT : Hid (zba ⟨k,p,q,r⟩ = false):=Lib.hid (by simp [zba,h0k.out,hu,hq])
  have HE : Hid (v = false):=Lib.hid (by rw [← HV.out]; unfold zaQ; rw [HK.out,HU.out,HT.out]; rfl)
  go_wp2_with (go_at_call 122; refine (zbb _ _ hu _).mono ?_; rintro e w9 ⟨rfl,b9⟩; obtain ⟨z0c0',z0c1',z0c2',z0c3'⟩:=(z0.on b9).zb4; have H1:=Below.step BW b9)
  go_ret
  exact ⟨zad HE.out.symm,H1⟩
 have gq:=zav hq
 by_cases hr : r = 0
 case neg =>
  have gr:=zae hr
  have HT : Hid (zba ⟨k,p,q,r⟩ = false):=Lib.hid (by simp [zba,h0k.out,hu,hq,hr])
  have HE : Hid (v = false):=Lib.hid (by rw [← HV.out]; unfold zaQ; rw [HK.out,HU.out,HT.out]; rfl)
  go_wp2_with (go_at_call 122; refine (zbb _ _ hu _).mono ?_; rintro e w9 ⟨rfl,b9⟩; obtain ⟨z0c0',z0c1',z0c2',z0c3'⟩:=(z0.on b9).zb4; have H1:=Below.step BW b9)
  go_ret
  exact ⟨zad HE.out.symm,H1⟩
 have gr:=zav hr
 have HT : Hid (zba ⟨k,p,q,r⟩ = true):=Lib.hid (by simp [zba,h0k.out,hu,hq,hr])
 have HE : Hid (v = true):=Lib.hid (by rw [← HV.out]; unfold zaQ; rw [HK.out,HU.out,HT.out]; rfl)
 go_wp2_with (go_at_call 122; refine (zbb _ _ hu _).mono ?_; rintro e w9 ⟨rfl,b9⟩; obtain ⟨z0c0',z0c1',z0c2',z0c3'⟩:=(z0.on b9).zb4; have H1:=Below.step BW b9)
 go_ret
 exact ⟨zad HE.out.symm,H1⟩
set_option maxHeartbeats 2000000 in
theorem rright_7 {k p q r : Int} {w : World} (n : Nat) (hn : n ≤ 1000000) (e0 : (k == 0) = false) (h0k : ¬ k = 0) (e7 : (k == 7) = true) (h7k : Hid (k = 7)) (hms : zau k = 1) (hk : za8 k = true) (v : Bool) (hv : zaQ n ⟨k,p,q,r⟩ = v) :
  Calls Try.prog 105 #[.agg #[.int .i64 k,.int .i64 p,.int .i64 q,.int .i64 r],.int .i64 n] w fun e w' => e = .returned (.bool v) ∧ Below w.heap.size w w':=by
 have HV:=Lib.hid hv
 have HK:=Lib.hid hk
 have HMI : Hid (zbd k = 1):=Lib.hid (by unfold zbd; rw [hk,hms]; rfl)
 clear hv hk
 go_enter Try.func105,Try.ntmps105
 go_upto_region 1 with fail
 obtain ⟨w1,e_w1,z0,BW⟩:=zmB w [.int .i64 k,.int .i64 p,.int .i64 q,.int .i64 r] 43
 rw [e_w1]
 clear e_w1
 have H0:=z0.2 0 _ rfl
 go_wp2_with fail
 refine (zb0 k 1 HMI.out _).mono ?_
 rintro e w2 ⟨rfl,b⟩
 replace z0:=z0.on b
 replace BW:=Below.step BW b
 clear b H0
 obtain ⟨H0,z0c1,z0c2,z0c3⟩:=z0.zb4
 go_wp2_with fail
 refine (zch k p q r _).mono ?_
 rintro e w3 ⟨A,mm,c,rfl,hi,hm3,b⟩
 replace z0:=z0.on b
 replace BW:=Below.step BW b
 clear b H0 z0c1 z0c2 z0c3
 have HLN:=Lib.hid hi.1
 go_wp2_with fail
 go_loopw [7] (fun i wr => ∃ j : Nat,j ≤ mm ∧ i = .int .i64 j ∧ ((zag ⟨k,p,q,r⟩).take j).all (zaj n) = true ∧ Below w3.heap.size w3 wr) (fun i _ => mm - (intOf i).toNat)
 case atStart => exact ⟨0,Nat.zero_le _,rfl,rfl,Below.refl _ _⟩
 obtain ⟨j,hj,rfl,ha,BR⟩:=hrel
 have HA:=Lib.hid ha
 clear ha
 by_cases hlt : j < mm
 ·obtain ⟨b1,off1,x,eA,HX,cx⟩:=(hi.on BR).at hlt
  subst eA
  have hj0 : (0 : Int) ≤ (j : Int):=by omega
  have hjm : (j : Int) < (mm : Int):=by omega
  have key : zaj n x = false → v = false:=fun h => by
   rw [← HV.out]
   unfold zaQ
   rw [zbC HX.out h,Bool.false_and,Bool.and_false]
  have H1:=Lib.hid key
  clear key
  by_cases h0 : x < 0
  case pos =>
   have HE : Hid (v = false):=Lib.hid (H1.out (by unfold zaj; simp; omega))
   go_wp2_with fail
   go_ret
   exact ⟨zad HE.out.symm,Below.step BW BR⟩
  by_cases h1 : (n : Int) ≤ x
  case pos =>
   have HE : Hid (v = false):=Lib.hid (H1.out (by unfold zaj; simp; omega))
   go_wp2_with fail
   go_ret
   exact ⟨zad HE.out.symm,Below.step BW BR⟩
  have HT:=Lib.hid (zbl HA.out HX.out (show zaj n x = true by unfold zaj; simp; omega))
  go_wp2_with fail
  go_roundw
  case rel => exact ⟨j + 1,by omega,by go_num,HT.out,BR⟩
  case measure => simp [intOf]; omega
 have HU : Hid ((zag ⟨k,p,q,r⟩).all (zaj n) = true):=Lib.hid (by have:=HA.out; rwa [List.take_of_length_le (by rw [HLN.out]; omega)] at this)
 replace z0:=z0.on BR
 replace BW:=Below.step BW BR
 obtain ⟨H0,z0c1,z0c2,z0c3⟩:=z0.zb4
 clear BR
 obtain ⟨u,hu⟩ : ∃ u,bitS q = u:=⟨_,rfl⟩
 cases u
 ·have HT : Hid (zba ⟨k,p,q,r⟩ = false):=Lib.hid (by simp [zba,h7k.out,hu])
  have HE : Hid (v = false):=Lib.hid (by rw [← HV.out]; unfold zaQ; rw [HK.out,HU.out,HT.out]; rfl)
  go_wp2_with (go_at_call 122; refine (zbb _ _ hu _).mono ?_; rintro e w9 ⟨rfl,b9⟩; obtain ⟨z0c0',z0c1',z0c2',z0c3'⟩:=(z0.on b9).zb4; have H2:=Below.step BW b9)
  go_ret
  exact ⟨zad HE.out.symm,H2⟩
 by_cases hr : r = 0
 case neg =>
  have gr:=zae hr
  have HT : Hid (zba ⟨k,p,q,r⟩ = false):=Lib.hid (by simp [zba,h7k.out,hu,hr])
  have HE : Hid (v = false):=Lib.hid (by rw [← HV.out]; unfold zaQ; rw [HK.out,HU.out,HT.out]; rfl)
  go_wp2_with (go_at_call 122; refine (zbb _ _ hu _).mono ?_; rintro e w9 ⟨rfl,b9⟩; obtain ⟨z0c0',z0c1',z0c2',z0c3'⟩:=(z0.on b9).zb4; have H2:=Below.step BW b9)
  go_ret
  exact ⟨zad HE.out.symm,H2⟩
 have gr:=zav hr
 have HT : Hid (zba ⟨k,p,q,r⟩ = true):=Lib.hid (by simp [zba,h7k.out,hu,hr])
 have HE : Hid (v = true):=Lib.hid (by rw [← HV.out]; unfold zaQ; rw [HK.out,HU.out,HT.out]; rfl)
 go_wp2_with (go_at_call 122; refine (zbb _ _ hu _).mono ?_; rintro e w9 ⟨rfl,b9⟩; obtain ⟨z0c0',z0c1',z0c2',z0c3'⟩:=(z0.on b9).zb4; have H2:=Below.step BW b9)
 go_ret
 exact ⟨zad HE.out.symm,H2⟩
set_option maxHeartbeats 2000000 in
theorem rright_m0 {k p q r : Int} {w : World} (n : Nat) (hn : n ≤ 1000000) (e0 : (k == 0) = false) (h0k : ¬ k = 0) (e7 : (k == 7) = false) (h7k : ¬ k = 7) (hms : zau k = 0) (hk : za8 k = true) (v : Bool) (hv : zaQ n ⟨k,p,q,r⟩ = v) :
  Calls Try.prog 105 #[.agg #[.int .i64 k,.int .i64 p,.int .i64 q,.int .i64 r],.int .i64 n] w fun e w' => e = .returned (.bool v) ∧ Below w.heap.size w w':=by
 have HV:=Lib.hid hv
 have HK:=Lib.hid hk
 have HMI : Hid (zbd k = 0):=Lib.hid (by unfold zbd; rw [hk,hms]; rfl)
 clear hv hk
 go_enter Try.func105,Try.ntmps105
 go_upto_region 1 with fail
 obtain ⟨w1,e_w1,z0,BW⟩:=zmB w [.int .i64 k,.int .i64 p,.int .i64 q,.int .i64 r] 43
 rw [e_w1]
 clear e_w1
 have H0:=z0.2 0 _ rfl
 go_wp2_with fail
 refine (zb0 k 0 HMI.out _).mono ?_
 rintro e w2 ⟨rfl,b⟩
 replace z0:=z0.on b
 replace BW:=Below.step BW b
 clear b H0
 obtain ⟨H0,z0c1,z0c2,z0c3⟩:=z0.zb4
 go_wp2_with fail
 refine (zch k p q r _).mono ?_
 rintro e w3 ⟨A,mm,c,rfl,hi,hm3,b⟩
 replace z0:=z0.on b
 replace BW:=Below.step BW b
 clear b H0 z0c1 z0c2 z0c3
 have HLN:=Lib.hid hi.1
 go_wp2_with fail
 go_loopw [7] (fun i wr => ∃ j : Nat,j ≤ mm ∧ i = .int .i64 j ∧ ((zag ⟨k,p,q,r⟩).take j).all (zaj n) = true ∧ Below w3.heap.size w3 wr) (fun i _ => mm - (intOf i).toNat)
 case atStart => exact ⟨0,Nat.zero_le _,rfl,rfl,Below.refl _ _⟩
 obtain ⟨j,hj,rfl,ha,BR⟩:=hrel
 have HA:=Lib.hid ha
 clear ha
 by_cases hlt : j < mm
 ·obtain ⟨b1,off1,x,eA,HX,cx⟩:=(hi.on BR).at hlt
  subst eA
  have hj0 : (0 : Int) ≤ (j : Int):=by omega
  have hjm : (j : Int) < (mm : Int):=by omega
  have key : zaj n x = false → v = false:=fun h => by
   rw [← HV.out]
   unfold zaQ
   rw [zbC HX.out h,Bool.false_and,Bool.and_false]
  have H1:=Lib.hid key
  clear key
  by_cases h0 : x < 0
  case pos =>
   have HE : Hid (v = false):=Lib.hid (H1.out (by unfold zaj; simp; omega))
   go_wp2_with fail
   go_ret
   exact ⟨zad HE.out.symm,Below.step BW BR⟩
  by_cases h1 : (n : Int) ≤ x
  case pos =>
   have HE : Hid (v = false):=Lib.hid (H1.out (by unfold zaj; simp; omega))
   go_wp2_with fail
   go_ret
   exact ⟨zad HE.out.symm,Below.step BW BR⟩
  have HT:=Lib.hid (zbl HA.out HX.out (show zaj n x = true by unfold zaj; simp; omega))
  go_wp2_with fail
  go_roundw
  case rel => exact ⟨j + 1,by omega,by go_num,HT.out,BR⟩
  case measure => simp [intOf]; omega
 have HU : Hid ((zag ⟨k,p,q,r⟩).all (zaj n) = true):=Lib.hid (by have:=HA.out; rwa [List.take_of_length_le (by rw [HLN.out]; omega)] at this)
 replace z0:=z0.on BR
 replace BW:=Below.step BW BR
 obtain ⟨H0,z0c1,z0c2,z0c3⟩:=z0.zb4
 clear BR
 by_cases hp : p = 0
 case neg =>
  have gp:=zae hp
  have HT : Hid (zba ⟨k,p,q,r⟩ = false):=Lib.hid (by simp [zba,h0k,h7k,hms,hp])
  have HE : Hid (v = false):=Lib.hid (by rw [← HV.out]; unfold zaQ; rw [HK.out,HU.out,HT.out]; rfl)
  go_wp2_with (go_at_call 122; refine (zbb _ _ hu _).mono ?_; rintro e w9 ⟨rfl,b9⟩; obtain ⟨z0c0',z0c1',z0c2',z0c3'⟩:=(z0.on b9).zb4; have H2:=Below.step BW b9)
  go_ret
  exact ⟨zad HE.out.symm,BW⟩
 have gp:=zav hp
 by_cases hq : q = 0
 case neg =>
  have gq:=zae hq
  have HT : Hid (zba ⟨k,p,q,r⟩ = false):=Lib.hid (by simp [zba,h0k,h7k,hms,hp,hq])
  have HE : Hid (v = false):=Lib.hid (by rw [← HV.out]; unfold zaQ; rw [HK.out,HU.out,HT.out]; rfl)
  go_wp2_with (go_at_call 122; refine (zbb _ _ hu _).mono ?_; rintro e w9 ⟨rfl,b9⟩; obtain ⟨z0c0',z0c1',z0c2',z0c3'⟩:=(z0.on b9).zb4; have H2:=Below.step BW b9)
  go_ret
  exact ⟨zad HE.out.symm,BW⟩
 have gq:=zav hq
 by_cases hr : r = 0
 case neg =>
  have gr:=zae hr
  have HT : Hid (zba ⟨k,p,q,r⟩ = false):=Lib.hid (by simp [zba,h0k,h7k,hms,hp,hq,hr])
  have HE : Hid (v = false):=Lib.hid (by rw [← HV.out]; unfold zaQ; rw [HK.out,HU.out,HT.out]; rfl)
  go_wp2_with (go_at_call 122; refine (zbb _ _ hu _).mono ?_; rintro e w9 ⟨rfl,b9⟩; obtain ⟨z0c0',z0c1',z0c2',z0c3'⟩:=(z0.on b9).zb4; have H2:=Below.step BW b9)
  go_ret
  exact ⟨zad HE.out.symm,BW⟩
 have gr:=zav hr
 have HT : Hid (zba ⟨k,p,q,r⟩ = true):=Lib.hid (by simp [zba,h0k,h7k,hms,hp,hq,hr])
 have HE : Hid (v = true):=Lib.hid (by rw [← HV.out]; unfold zaQ; rw [HK.out,HU.out,HT.out]; rfl)
 go_wp2_with (go_at_call 122; refine (zbb _ _ hu _).mono ?_; rintro e w9 ⟨rfl,b9⟩; obtain ⟨z0c0',z0c1',z0c2',z0c3'⟩:=(z0.on b9).zb4; have H2:=Below.step BW b9)
 go_ret
 exact ⟨zad HE.out.symm,BW⟩
set_option maxHeartbeats 2000000 in
theorem rright_m1 {k p q r : Int} {w : World} (n : Nat) (hn : n ≤ 1000000) (e0 : (k == 0) = false) (h0k : ¬ k = 0) (e7 : (k == 7) = false) (h7k : ¬ k = 7) (hms : zau k = 1) (hk : za8 k = true) (v : Bool) (hv : zaQ n ⟨k,p,q,r⟩ = v) :
  Calls Try.prog 105 #[.agg #[.int .i64 k,.int .i64 p,.int .i64 q,.int .i64 r],.int .i64 n] w fun e w' => e = .returned (.bool v) ∧ Below w.heap.size w w':=by
 have HV:=Lib.hid hv
 have HK:=Lib.hid hk
 have HMI : Hid (zbd k = 1):=Lib.hid (by unfold zbd; rw [hk,hms]; rfl)
 clear hv hk
 go_enter Try.func105,Try.ntmps105
 go_upto_region 1 with fail
 obtain ⟨w1,e_w1,z0,BW⟩:=zmB w [.int .i64 k,.int .i64 p,.int .i64 q,.int .i64 r] 43
 rw [e_w1]
 clear e_w1
 have H0:=z0.2 0 _ rfl
 go_wp2_with fail
 refine (zb0 k 1 HMI.out _).mono ?_
 rintro e w2 ⟨rfl,b⟩
 replace z0:=z0.on b
 replace BW:=Below.step BW b
 clear b H0
 obtain ⟨H0,z0c1,z0c2,z0c3⟩:=z0.zb4
 go_wp2_with fail
 refine (zch k p q r _).mono ?_
 rintro e w3 ⟨A,mm,c,rfl,hi,hm3,b⟩
 replace z0:=z0.on b
 replace BW:=Below.step BW b
 clear b H0 z0c1 z0c2 z0c3
 have HLN:=Lib.hid hi.1
 go_wp2_with fail
 go_loopw [7] (fun i wr => ∃ j : Nat,j ≤ mm ∧ i = .int .i64 j ∧ ((zag ⟨k,p,q,r⟩).take j).all (zaj n) = true ∧ Below w3.heap.size w3 wr) (fun i _ => mm - (intOf i).toNat)
 case atStart => exact ⟨0,Nat.zero_le _,rfl,rfl,Below.refl _ _⟩
 obtain ⟨j,hj,rfl,ha,BR⟩:=hrel
 have HA:=Lib.hid ha
 clear ha
 by_cases hlt : j < mm
 ·obtain ⟨b1,off1,x,eA,HX,cx⟩:=(hi.on BR).at hlt
  subst eA
  have hj0 : (0 : Int) ≤ (j : Int):=by omega
  have hjm : (j : Int) < (mm : Int):=by omega
  have key : zaj n x = false → v = false:=fun h => by
   rw [← HV.out]
   unfold zaQ
   rw [zbC HX.out h,Bool.false_and,Bool.and_false]
  have H1:=Lib.hid key
  clear key
  by_cases h0 : x < 0
  case pos =>
   have HE : Hid (v = false):=Lib.hid (H1.out (by unfold zaj; simp; omega))
   go_wp2_with fail
   go_ret
   exact ⟨zad HE.out.symm,Below.step BW BR⟩
  by_cases h1 : (n : Int) ≤ x
  case pos =>
   have HE : Hid (v = false):=Lib.hid (H1.out (by unfold zaj; simp; omega))
   go_wp2_with fail
   go_ret
   exact ⟨zad HE.out.symm,Below.step BW BR⟩
  have HT:=Lib.hid (zbl HA.out HX.out (show zaj n x = true by unfold zaj; simp; omega))
  go_wp2_with fail
  go_roundw
  case rel => exact ⟨j + 1,by omega,by go_num,HT.out,BR⟩
  case measure => simp [intOf]; omega
 have HU : Hid ((zag ⟨k,p,q,r⟩).all (zaj n) = true):=Lib.hid (by have:=HA.out; rwa [List.take_of_length_le (by rw [HLN.out]; omega)] at this)
 replace z0:=z0.on BR
 replace BW:=Below.step BW BR
 obtain ⟨H0,z0c1,z0c2,z0c3⟩:=z0.zb4
 clear BR
 by_cases hq : q = 0
 case neg =>
  have gq:=zae hq
  have HT : Hid (zba ⟨k,p,q,r⟩ = false):=Lib.hid (by simp [zba,h0k,h7k,hms,hq])
  have HE : Hid (v = false):=Lib.hid (by rw [← HV.out]; unfold zaQ; rw [HK.out,HU.out,HT.out]; rfl)
  go_wp2_with (go_at_call 122; refine (zbb _ _ hu _).mono ?_; rintro e w9 ⟨rfl,b9⟩; obtain ⟨z0c0',z0c1',z0c2',z0c3'⟩:=(z0.on b9).zb4; have BW9:=Below.step BW b9)
  go_ret
  exact ⟨zad HE.out.symm,BW⟩
 have gq:=zav hq
 by_cases hr : r = 0
 case neg =>
  have gr:=zae hr
  have HT : Hid (zba ⟨k,p,q,r⟩ = false):=Lib.hid (by simp [zba,h0k,h7k,hms,hq,hr])
  have HE : Hid (v = false):=Lib.hid (by rw [← HV.out]; unfold zaQ; rw [HK.out,HU.out,HT.out]; rfl)
  go_wp2_with (go_at_call 122; refine (zbb _ _ hu _).mono ?_; rintro e w9 ⟨rfl,b9⟩; obtain ⟨z0c0',z0c1',z0c2',z0c3'⟩:=(z0.on b9).zb4; have BW9:=Below.step BW b9)
  go_ret
  exact ⟨zad HE.out.symm,BW⟩
 have gr:=zav hr
 have HT : Hid (zba ⟨k,p,q,r⟩ = true):=Lib.hid (by simp [zba,h0k,h7k,hms,hq,hr])
 have HE : Hid (v = true):=Lib.hid (by rw [← HV.out]; unfold zaQ; rw [HK.out,HU.out,HT.out]; rfl)
 go_wp2_with (go_at_call 122; refine (zbb _ _ hu _).mono ?_; rintro e w9 ⟨rfl,b9⟩; obtain ⟨z0c0',z0c1',z0c2',z0c3'⟩:=(z0.on b9).zb4; have BW9:=Below.step BW b9)
 go_ret
 exact ⟨zad HE.out.symm,BW⟩
set_option maxHeartbeats 2000000 in
theorem zd6 {k p q r : Int} {w : World} (n : Nat) (hn : n ≤ 1000000) (e0 : (k == 0) = false) (h0k : ¬ k = 0) (e7 : (k == 7) = false) (h7k : ¬ k = 7) (hms : zau k = 2) (hk : za8 k = true) (v : Bool) (hv : zaQ n ⟨k,p,q,r⟩ = v) :
  Calls Try.prog 105 #[.agg #[.int .i64 k,.int .i64 p,.int .i64 q,.int .i64 r],.int .i64 n] w fun e w' => e = .returned (.bool v) ∧ Below w.heap.size w w':=by
 have HV:=Lib.hid hv
 have HK:=Lib.hid hk
 have HMI : Hid (zbd k = 2):=Lib.hid (by unfold zbd; rw [hk,hms]; rfl)
 clear hv hk
 go_enter Try.func105,Try.ntmps105
 go_upto_region 1 with fail
 obtain ⟨w1,e_w1,z0,BW⟩:=zmB w [.int .i64 k,.int .i64 p,.int .i64 q,.int .i64 r] 43
 rw [e_w1]
 clear e_w1
 have H0:=z0.2 0 _ rfl
 go_wp2_with fail
 refine (zb0 k 2 HMI.out _).mono ?_
 rintro e w2 ⟨rfl,b⟩
 replace z0:=z0.on b
 replace BW:=Below.step BW b
 clear b H0
 obtain ⟨H0,z0c1,z0c2,z0c3⟩:=z0.zb4
 go_wp2_with fail
 refine (zch k p q r _).mono ?_
 rintro e w3 ⟨A,mm,c,rfl,hi,hm3,b⟩
 replace z0:=z0.on b
 replace BW:=Below.step BW b
 clear b H0 z0c1 z0c2 z0c3
 have HLN:=Lib.hid hi.1
 go_wp2_with fail
 go_loopw [7] (fun i wr => ∃ j : Nat,j ≤ mm ∧ i = .int .i64 j ∧ ((zag ⟨k,p,q,r⟩).take j).all (zaj n) = true ∧ Below w3.heap.size w3 wr) (fun i _ => mm - (intOf i).toNat)
 case atStart => exact ⟨0,Nat.zero_le _,rfl,rfl,Below.refl _ _⟩
 obtain ⟨j,hj,rfl,ha,BR⟩:=hrel
 have HA:=Lib.hid ha
 clear ha
 by_cases hlt : j < mm
 ·obtain ⟨b1,off1,x,eA,HX,cx⟩:=(hi.on BR).at hlt
  subst eA
  have hj0 : (0 : Int) ≤ (j : Int):=by omega
  have hjm : (j : Int) < (mm : Int):=by omega
  have key : zaj n x = false → v = false:=fun h => by
   rw [← HV.out]
   unfold zaQ
   rw [zbC HX.out h,Bool.false_and,Bool.and_false]
  have H1:=Lib.hid key
  clear key
  by_cases h0 : x < 0
  case pos =>
   have HE : Hid (v = false):=Lib.hid (H1.out (by unfold zaj; simp; omega))
   go_wp2_with fail
   go_ret
   exact ⟨zad HE.out.symm,Below.step BW BR⟩
  by_cases h1 : (n : Int) ≤ x
  case pos =>
   have HE : Hid (v = false):=Lib.hid (H1.out (by unfold zaj; simp; omega))
   go_wp2_with fail
   go_ret
   exact ⟨zad HE.out.symm,Below.step BW BR⟩
  have HT:=Lib.hid (zbl HA.out HX.out (show zaj n x = true by unfold zaj; simp; omega))
  go_wp2_with fail
  go_roundw
  case rel => exact ⟨j + 1,by omega,by go_num,HT.out,BR⟩
  case measure => simp [intOf]; omega
 have HU : Hid ((zag ⟨k,p,q,r⟩).all (zaj n) = true):=Lib.hid (by have:=HA.out; rwa [List.take_of_length_le (by rw [HLN.out]; omega)] at this)
 replace z0:=z0.on BR
 replace BW:=Below.step BW BR
 obtain ⟨H0,z0c1,z0c2,z0c3⟩:=z0.zb4
 clear BR
 by_cases hr : r = 0
 case neg =>
  have gr:=zae hr
  have HT : Hid (zba ⟨k,p,q,r⟩ = false):=Lib.hid (by simp [zba,h0k,h7k,hms,hr])
  have HE : Hid (v = false):=Lib.hid (by rw [← HV.out]; unfold zaQ; rw [HK.out,HU.out,HT.out]; rfl)
  go_wp2_with (go_at_call 122; refine (zbb _ _ hu _).mono ?_; rintro e w9 ⟨rfl,b9⟩; obtain ⟨z0c0',z0c1',z0c2',z0c3'⟩:=(z0.on b9).zb4; have BW9:=Below.step BW b9)
  go_ret
  exact ⟨zad HE.out.symm,BW⟩
 have gr:=zav hr
 have HT : Hid (zba ⟨k,p,q,r⟩ = true):=Lib.hid (by simp [zba,h0k,h7k,hms,hr])
 have HE : Hid (v = true):=Lib.hid (by rw [← HV.out]; unfold zaQ; rw [HK.out,HU.out,HT.out]; rfl)
 go_wp2_with (go_at_call 122; refine (zbb _ _ hu _).mono ?_; rintro e w9 ⟨rfl,b9⟩; obtain ⟨z0c0',z0c1',z0c2',z0c3'⟩:=(z0.on b9).zb4; have BW9:=Below.step BW b9)
 go_ret
 exact ⟨zad HE.out.symm,BW⟩
set_option maxHeartbeats 2000000 in
theorem rright_m3 {k p q r : Int} {w : World} (n : Nat) (hn : n ≤ 1000000) (e0 : (k == 0) = false) (h0k : ¬ k = 0) (e7 : (k == 7) = false) (h7k : ¬ k = 7) (hms : zau k = 3) (hk : za8 k = true) (v : Bool) (hv : zaQ n ⟨k,p,q,r⟩ = v) :
  Calls Try.prog 105 #[.agg #[.int .i64 k,.int .i64 p,.int .i64 q,.int .i64 r],.int .i64 n] w fun e w' => e = .returned (.bool v) ∧ Below w.heap.size w w':=by
 have HV:=Lib.hid hv
 have HK:=Lib.hid hk
 have HMI : Hid (zbd k = 3):=Lib.hid (by unfold zbd; rw [hk,hms]; rfl)
 clear hv hk
 go_enter Try.func105,Try.ntmps105
 go_upto_region 1 with fail
 obtain ⟨w1,e_w1,z0,BW⟩:=zmB w [.int .i64 k,.int .i64 p,.int .i64 q,.int .i64 r] 43
 rw [e_w1]
 clear e_w1
 have H0:=z0.2 0 _ rfl
 go_wp2_with fail
 refine (zb0 k 3 HMI.out _).mono ?_
 rintro e w2 ⟨rfl,b⟩
 replace z0:=z0.on b
 replace BW:=Below.step BW b
 clear b H0
 obtain ⟨H0,z0c1,z0c2,z0c3⟩:=z0.zb4
 go_wp2_with fail
 refine (zch k p q r _).mono ?_
 rintro e w3 ⟨A,mm,c,rfl,hi,hm3,b⟩
 replace z0:=z0.on b
 replace BW:=Below.step BW b
 clear b H0 z0c1 z0c2 z0c3
 have HLN:=Lib.hid hi.1
 go_wp2_with fail
 go_loopw [7] (fun i wr => ∃ j : Nat,j ≤ mm ∧ i = .int .i64 j ∧ ((zag ⟨k,p,q,r⟩).take j).all (zaj n) = true ∧ Below w3.heap.size w3 wr) (fun i _ => mm - (intOf i).toNat)
 case atStart => exact ⟨0,Nat.zero_le _,rfl,rfl,Below.refl _ _⟩
 obtain ⟨j,hj,rfl,ha,BR⟩:=hrel
 have HA:=Lib.hid ha
 clear ha
 by_cases hlt : j < mm
 ·obtain ⟨b1,off1,x,eA,HX,cx⟩:=(hi.on BR).at hlt
  subst eA
  have hj0 : (0 : Int) ≤ (j : Int):=by omega
  have hjm : (j : Int) < (mm : Int):=by omega
  have key : zaj n x = false → v = false:=fun h => by
   rw [← HV.out]
   unfold zaQ
   rw [zbC HX.out h,Bool.false_and,Bool.and_false]
  have H1:=Lib.hid key
  clear key
  by_cases h0 : x < 0
  case pos =>
   have HE : Hid (v = false):=Lib.hid (H1.out (by unfold zaj; simp; omega))
   go_wp2_with fail
   go_ret
   exact ⟨zad HE.out.symm,Below.step BW BR⟩
  by_cases h1 : (n : Int) ≤ x
  case pos =>
   have HE : Hid (v = false):=Lib.hid (H1.out (by unfold zaj; simp; omega))
   go_wp2_with fail
   go_ret
   exact ⟨zad HE.out.symm,Below.step BW BR⟩
  have HT:=Lib.hid (zbl HA.out HX.out (show zaj n x = true by unfold zaj; simp; omega))
  go_wp2_with fail
  go_roundw
  case rel => exact ⟨j + 1,by omega,by go_num,HT.out,BR⟩
  case measure => simp [intOf]; omega
 have HU : Hid ((zag ⟨k,p,q,r⟩).all (zaj n) = true):=Lib.hid (by have:=HA.out; rwa [List.take_of_length_le (by rw [HLN.out]; omega)] at this)
 replace z0:=z0.on BR
 replace BW:=Below.step BW BR
 obtain ⟨H0,z0c1,z0c2,z0c3⟩:=z0.zb4
 clear BR
 have HT : Hid (zba ⟨k,p,q,r⟩ = true):=Lib.hid (by simp [zba,h0k,h7k,hms])
 have HE : Hid (v = true):=Lib.hid (by rw [← HV.out]; unfold zaQ; rw [HK.out,HU.out,HT.out]; rfl)
 go_wp2_with (go_at_call 122; refine (zbb _ _ hu _).mono ?_; rintro e w9 ⟨rfl,b9⟩; obtain ⟨z0c0',z0c1',z0c2',z0c3'⟩:=(z0.on b9).zb4; have BW9:=Below.step BW b9)
 go_ret
 exact ⟨zad HE.out.symm,BW⟩
theorem rright_none {k p q r : Int} {w : World} (n : Nat) (hk : za8 k = false) (v : Bool) (hv : zaQ n ⟨k,p,q,r⟩ = v) : Calls Try.prog 105 #[.agg #[.int .i64 k,.int .i64 p,.int .i64 q,.int .i64 r],.int .i64 n] w fun e w' => e = .returned (.bool v) ∧ Below w.heap.size w w':=by
 have HV : Hid (v = false):=Lib.hid (by rw [← hv]; unfold zaQ; rw [hk]; rfl)
 have HMI : Hid (zbd k = -1):=Lib.hid (by unfold zbd; rw [hk]; rfl)
 clear hv hk
 go_enter Try.func105,Try.ntmps105
 go_upto_region 1 with fail
 obtain ⟨w1,e_w1,z0,BW⟩:=zmB w [.int .i64 k,.int .i64 p,.int .i64 q,.int .i64 r] 43
 rw [e_w1]
 clear e_w1
 have z0c0:=z0.2 0 _ rfl
 go_wp2_with fail
 refine (zb0 k (-1) HMI.out _).mono ?_
 rintro e w2 ⟨rfl,b⟩
 replace BW:=Below.step BW b
 go_wp2_with fail
 go_ret
 exact ⟨zad HV.out.symm,BW⟩
theorem rright_as (k p q r : Int) (w : World) (n : Nat) (hn : n ≤ 1000000) (v : Bool) (hv : zaf n ⟨k,p,q,r⟩ = v) : Calls Try.prog 105 #[.agg #[.int .i64 k,.int .i64 p,.int .i64 q,.int .i64 r],.int .i64 n] w fun e w' => e = .returned (.bool v) ∧ Below w.heap.size w w':=by
 rw [← right_formed] at hv
 cases hk : za8 k with
 | false => exact rright_none n hk v hv
 | true =>
  have h8 : k = 0 ∨ k = 1 ∨ k = 2 ∨ k = 3 ∨ k = 4 ∨ k = 5 ∨ k = 6 ∨ k = 7:=by
   unfold za8 at hk
   simp only [Bool.and_eq_true,decide_eq_true_eq] at hk
   omega
  rcases h8 with h | h | h | h | h | h | h | h
  ·exact rright_0 n hn (zav h) (Lib.hid h) (by subst h; rfl) hk v hv
  ·exact rright_m0 n hn (zae (by omega)) (by omega) (zae (by omega)) (by omega) (by subst h; rfl) hk v hv
  ·exact rright_m1 n hn (zae (by omega)) (by omega) (zae (by omega)) (by omega) (by subst h; rfl) hk v hv
  ·exact zd6 n hn (zae (by omega)) (by omega) (zae (by omega)) (by omega) (by subst h; rfl) hk v hv
  ·exact zd6 n hn (zae (by omega)) (by omega) (zae (by omega)) (by omega) (by subst h; rfl) hk v hv
  ·exact zd6 n hn (zae (by omega)) (by omega) (zae (by omega)) (by omega) (by subst h; rfl) hk v hv
  ·exact rright_m3 n hn (zae (by omega)) (by omega) (zae (by omega)) (by omega) (by subst h; rfl) hk v hv
  exact rright_7 n hn (zae (by omega)) (by omega) (zav h) (Lib.hid h) (by subst h; rfl) hk v hv
set_option maxRecDepth 4000
theorem count_snoc {L : List Int} {l : Nat} {x a : Int} (h : L[l]? = some x) (P : List Int) : (P ++ L.take (l + 1)).count a = (P ++ L.take l).count a + if x = a then 1 else 0:=by
 rw [List.take_add_one,h,← List.append_assoc,List.count_append]
 congr 1
 simp [List.count_cons]
set_option maxHeartbeats 4000000 in
theorem rtimes_as {An Ai Ao : Option Addr} {nn cn ni ci no co : Nat} {I : List Pt} {w : World} (hI : Ps w Ai ni I) (hni : ni ≤ 1000000) (hb : ∀ p ∈ I,p.bits.length ≤ 1000000) (hc : ∀ k : Nat,(zah (I.take k)).length ≤ 1000000) (a : Int) :
  Calls Try.prog 83 #[.agg #[.slice An nn cn,.slice Ai ni ci,.slice Ao no co],.int .i64 a] w fun e w' => e = .returned (.int .i64 ((zah I).count a : Nat)) ∧ Below w.heap.size w w':=by
 have HB:=Lib.hid hb
 have HC:=Lib.hid hc
 clear hb hc
 go_enter Try.func83,Try.ntmps83
 go_upto_region 1 with fail
 obtain ⟨w1,e_w1,z0,BW⟩:=zmB w [.slice An nn cn,.slice Ai ni ci,.slice Ao no co] 25
 rw [e_w1]
 clear e_w1
 replace hI:=hI.on BW
 go_wp2_with fail
 go_loopw [5,6] (fun c i wr => ∃ j cc : Nat,j ≤ ni ∧ i = .int .i64 j ∧ c = .int .i64 cc ∧ cc = (zah (I.take j)).count a ∧ Below w1.heap.size w1 wr) (fun _ i _ => ni - (intOf i).toNat)
 case atStart => exact ⟨0,0,Nat.zero_le _,rfl,rfl,rfl,Below.refl _ _⟩
 obtain ⟨j,cc,hj,rfl,rfl,hcc,BR⟩:=hrel
 have HCC:=Lib.hid hcc
 clear hcc
 have H0:=(z0.on BR).2 1 _ rfl
 by_cases hlt : j < ni
 ·obtain ⟨b0,off,nm,A',m,c',bs,eA,hbw,HX,k1,k2,hi⟩:=(hI.on BR).at0 hlt
  have hjn : (j : Int) < (ni : Int):=by omega
  have hj0 : (0 : Int) ≤ (j : Int):=by omega
  have hm : m ≤ 1000000:=by rw [← hi.1]; exact HB.out _ (List.mem_of_getElem? HX.out)
  have z9:=z0.on BR
  obtain ⟨wo,rfl⟩ : ∃ x,x = wr:=⟨_,rfl⟩
  subst eA
  go_wp2_with fail
  clear H0 k1
  go_loopw [5,7] (fun c i wr => ∃ l cc : Nat,l ≤ m ∧ i = .int .i64 l ∧ c = .int .i64 cc ∧ cc = (zah (I.take j) ++ bs.take l).count a ∧ Below wo.heap.size wo wr) (fun _ i _ => m - (intOf i).toNat)
  case atStart => exact ⟨0,cc,Nat.zero_le _,rfl,rfl,by rw [HCC.out]; simp,Below.refl _ _⟩
  obtain ⟨l,c2,hl,rfl,rfl,hc2,BS⟩:=hrel
  have H1:=Lib.hid hc2
  clear hc2
  have H0:=(z9.on BS).2 1 _ rfl
  replace k2:=(BS.cell (p:=⟨b0,off + j * 2 + 1,none⟩) hbw).trans k2
  by_cases hlm : l < m
  ·obtain ⟨b3,off3,x,eB,HX2,cx⟩:=(hi.on BS).at hlm
   subst eB
   have H2 : (l : Int) < (m : Int):=by omega
   have hl0 : (0 : Int) ≤ (l : Int):=by omega
   have HS:=Lib.hid (count_snoc (a:=a) HX2.out (zah (I.take j)))
   have hcb : c2 ≤ 2000000:=by
    rw [H1.out]
    have h1:=List.count_le_length (a:=a) (l:=zah (I.take j) ++ bs.take l)
    have h2:=HC.out j
    have h3:=hi.1
    rw [List.length_append,List.length_take] at h1
    omega
   by_cases e : x = a
   ·have g:=zav e
    have HE : Hid (c2 + 1 = (zah (I.take j) ++ bs.take (l + 1)).count a):=Lib.hid (by rw [HS.out,if_pos e,H1.out])
    have he:=Lib.hid e
    clear e
    go_wp2_with fail
    go_roundw
    case rel => exact ⟨l + 1,c2 + 1,by omega,by go_num,by go_num,HE.out,BS⟩
    case measure => simp [intOf]; omega
   have g:=zae e
   have HE : Hid (c2 = (zah (I.take j) ++ bs.take (l + 1)).count a):=Lib.hid (by rw [HS.out,if_neg e,H1.out]; rfl)
   go_wp2_with fail
   go_roundw
   case rel => exact ⟨l + 1,c2,by omega,by go_num,rfl,HE.out,BS⟩
   case measure => simp [intOf]; omega
  have HE : Hid (c2 = (zah (I.take (j + 1))).count a):=Lib.hid (by
   have eb : bs.take l = bs:=List.take_of_length_le (by rw [hi.1]; omega)
   rw [zcc HX.out,H1.out,eb])
  have H2 : ¬ (l : Int) < (m : Int):=by omega
  go_wp2_with fail
  go_roundw
  case rel => exact ⟨j + 1,c2,by omega,by go_num,rfl,HE.out,Below.step BR BS⟩
  case measure => simp [intOf]; omega
 have HE : Hid (cc = (zah I).count a):=Lib.hid (by
  have hl:=hI.1
  rw [HCC.out,List.take_of_length_le (by omega)])
 have hjn : ¬ (j : Int) < (ni : Int):=by omega
 go_wp2_with fail
 go_ret
 exact ⟨n6ret_int (congrArg _ HE.out),Below.step BW BR⟩
set_option maxRecDepth 4000
theorem need_lt {n : Nat} {x : Nd} (h : zaf n x = true) : ∀ j ∈ za0 x,j < n:=by
 intro j hj
 unfold za0 at hj
 split at hj
 ·cases hj
 obtain ⟨p,hp,rfl⟩:=List.mem_map.1 hj
 unfold zaf at h
 simp only [Bool.and_eq_true] at h
 have:=List.all_eq_true.1 h.2.2.1 p hp
 unfold zaj at this
 simp only [Bool.and_eq_true,decide_eq_true_eq] at this
 omega
theorem zcw {N : List Nd} {I O : List Pt} : zaU N I O = 0 ↔ ¬ 64 < I.length + O.length ∧ N.all (zaf N.length) = true ∧ (I ++ O).all (zaM N.length) = true ∧ (I ++ O).all (fun p => zbm p.name) = true ∧ dupS (I ++ O) = false ∧ fedS N I = true:=by
 unfold zaU
 constructor
 ·intro h
  split at h
  ·cases h
  rename_i h1
  split at h
  ·rename_i h2
   rw [Bool.and_eq_true] at h2
   split at h
   ·rename_i h3
    split at h
    ·cases h
    rename_i h4
    split at h
    ·rename_i h5
     exact ⟨h1,h2.1,h2.2,h3,by simpa using h4,h5⟩
    cases h
   cases h
  cases h
 rintro ⟨h1,h2,h3,h4,h5,h6⟩
 rw [if_neg h1,h2,h3,h4,h5,h6]
 rfl
end Go.Proofs.Ytcehklnonhalhaa
