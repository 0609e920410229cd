/-
  What the proofs of OptSame need: Gx Gz.
-/
import Derived.Test.YtcehklnonhalhaaSPGt
set_option linter.unusedVariables false
namespace Go.Proofs.Ytcehklnonhalhaa
open Go.RowKit
set_option maxRecDepth 4000
def tailS (x : Nd) : Bool := if x.k = 0 then bitS x.a && (x.b == 0 && x.c == 0) else if x.k = 7 then bitS x.b && x.c == 0 else (decide (1 ≤ manyS x.k) || x.a == 0) && ((decide (2 ≤ manyS x.k) || x.b == 0) && (decide (3 ≤ manyS x.k) || x.c == 0))
def rightS (n : Int) (x : Nd) : Bool := kindS x.k && ((usesS x).all (placeS n) && tailS x)
theorem right_formed (n : Int) (x : Nd) : rightS n x = formedS n x := by
 obtain ⟨k, p, q, r⟩ := x
 unfold rightS formedS
 cases hk : kindS k with
 | false => simp only [Bool.false_and]
 | true =>
  have h8 : k = 0 ∨ k = 1 ∨ k = 2 ∨ k = 3 ∨ k = 4 ∨ k = 5 ∨ k = 6 ∨ k = 7 := by
   unfold kindS at hk
   simp only [Bool.and_eq_true, decide_eq_true_eq] at hk
   omega
  simp only [Bool.true_and]
  rw [Bool.eq_iff_iff]
  rcases h8 with rfl | rfl | rfl | rfl | rfl | rfl | rfl | rfl <;> simp [tailS, sameN, bareS, restS, usesS, manyS] <;> (try constructor) <;> (try intros) <;> (try simp_all)
set_option maxHeartbeats 2000000 in
theorem rright_0 {k p q r : Int} {w : World} (n : Nat) (hn : n ≤ 1000000) (e0 : (k == 0) = true) (h0k : Hid (k = 0)) (hms : manyS k = 0) (hk : kindS k = true) (v : Bool) (hv : rightS n ⟨k, p, q, r⟩ = v) :
  Calls Try.prog 105 #[.agg #[.int .i64 k, .int .i64 p, .int .i64 q, .int .i64 r], .int .i64 n] w fun e w' => e = .returned (.bool v) ∧ Below w.heap.size w w' := by
 have HV := Lib.hid hv
 have HK := Lib.hid hk
 have HMI : Hid (manyI k = 0) := Lib.hid (by unfold manyI; rw [hk, hms]; rfl)
 clear hv hk
 go_enter Try.func105, Try.ntmps105
 go_upto_region 1 with fail
 obtain ⟨w1, e_w1, z0, BW⟩ := zmB w [.int .i64 k, .int .i64 p, .int .i64 q, .int .i64 r] 43
 rw [e_w1]
 clear e_w1
 have z0c0 := z0.2 0 _ rfl
 go_wp2_with fail
 refine (many_as k 0 HMI.out _).mono ?_
 rintro e w2 ⟨rfl, b⟩
 replace z0 := z0.on b
 replace BW := Below.step BW b
 clear b z0c0
 obtain ⟨z0c0, z0c1, z0c2, z0c3⟩ := z0.zb4
 go_wp2_with fail
 refine (ruses_as k p q r _).mono ?_
 rintro e w3 ⟨A, mm, c, rfl, hi, hm3, b⟩
 replace z0 := z0.on b
 replace BW := Below.step BW b
 clear b z0c0 z0c1 z0c2 z0c3
 have HLN := Lib.hid hi.1
 go_wp2_with fail
 go_loopw [7] (fun i wr => ∃ j : Nat, j ≤ mm ∧ i = .int .i64 j ∧ ((usesS ⟨k, p, q, r⟩).take j).all (placeS n) = true ∧ Below w3.heap.size w3 wr) (fun i _ => mm - (intOf i).toNat)
 case atStart => exact ⟨0, Nat.zero_le _, rfl, rfl, Below.refl _ _⟩
 case round =>
  obtain ⟨j, hj, rfl, ha, BR⟩ := hrel
  have HA := Lib.hid ha
  clear ha
  by_cases hlt : j < mm
  ·obtain ⟨b1, off1, x, eA, HX, cx⟩ := (hi.on BR).at hlt
   subst eA
   have hj0 : (0 : Int) ≤ (j : Int) := by omega
   have hjm : (j : Int) < (mm : Int) := by omega
   have key : placeS n x = false → v = false := fun h => by
    rw [← HV.out]
    unfold rightS
    rw [notall HX.out h, Bool.false_and, Bool.and_false]
   have HKEY := Lib.hid key
   clear key
   by_cases h0 : x < 0
   case pos =>
    have HE : Hid (v = false) := Lib.hid (HKEY.out (by unfold placeS; simp; omega))
    go_wp2_with fail
    go_ret
    exact ⟨ret_bool HE.out.symm, Below.step BW BR⟩
   by_cases h1 : (n : Int) ≤ x
   case pos =>
    have HE : Hid (v = false) := Lib.hid (HKEY.out (by unfold placeS; simp; omega))
    go_wp2_with fail
    go_ret
    exact ⟨ret_bool HE.out.symm, Below.step BW BR⟩
   have HT := Lib.hid (takeall HA.out HX.out (show placeS n x = true by unfold placeS; simp; omega))
   go_wp2_with fail
   go_roundw
   case rel => exact ⟨j + 1, by omega, by go_num, HT.out, BR⟩
   case measure => simp [intOf]; omega
  ·have HU : Hid ((usesS ⟨k, p, q, r⟩).all (placeS n) = true) := Lib.hid (by have := HA.out; rwa [List.take_of_length_le (by rw [HLN.out]; omega)] at this)
   replace z0 := z0.on BR
   replace BW := Below.step BW BR
   obtain ⟨z0c0, z0c1, z0c2, z0c3⟩ := z0.zb4
   clear BR
   obtain ⟨u, hu⟩ : ∃ u, bitS p = u := ⟨_, rfl⟩
   cases u
   ·have HT : Hid (tailS ⟨k, p, q, r⟩ = false) := Lib.hid (by simp [tailS, h0k.out, hu])
    have HE : Hid (v = false) := Lib.hid (by rw [← HV.out]; unfold rightS; rw [HK.out, HU.out, HT.out]; rfl)
    go_wp2_with (go_at_call 122; refine (rbit_as _ _ hu _).mono ?_; rintro e w9 ⟨rfl, b9⟩; obtain ⟨z0c0', z0c1', z0c2', z0c3'⟩ := (z0.on b9).zb4; have BW9 := Below.step BW b9)
    go_ret
    exact ⟨ret_bool HE.out.symm, BW9⟩
   ·by_cases hq : q = 0
    case neg =>
     have gq := beq_ff hq
     have HT : Hid (tailS ⟨k, p, q, r⟩ = false) := Lib.hid (by simp [tailS, h0k.out, hu, hq])
     have HE : Hid (v = false) := Lib.hid (by rw [← HV.out]; unfold rightS; rw [HK.out, HU.out, HT.out]; rfl)
     go_wp2_with (go_at_call 122; refine (rbit_as _ _ hu _).mono ?_; rintro e w9 ⟨rfl, b9⟩; obtain ⟨z0c0', z0c1', z0c2', z0c3'⟩ := (z0.on b9).zb4; have BW9 := Below.step BW b9)
     go_ret
     exact ⟨ret_bool HE.out.symm, BW9⟩
    have gq := beq_tt hq
    by_cases hr : r = 0
    case neg =>
     have gr := beq_ff hr
     have HT : Hid (tailS ⟨k, p, q, r⟩ = false) := Lib.hid (by simp [tailS, h0k.out, hu, hq, hr])
     have HE : Hid (v = false) := Lib.hid (by rw [← HV.out]; unfold rightS; rw [HK.out, HU.out, HT.out]; rfl)
     go_wp2_with (go_at_call 122; refine (rbit_as _ _ hu _).mono ?_; rintro e w9 ⟨rfl, b9⟩; obtain ⟨z0c0', z0c1', z0c2', z0c3'⟩ := (z0.on b9).zb4; have BW9 := Below.step BW b9)
     go_ret
     exact ⟨ret_bool HE.out.symm, BW9⟩
    have gr := beq_tt hr
    have HT : Hid (tailS ⟨k, p, q, r⟩ = true) := Lib.hid (by simp [tailS, h0k.out, hu, hq, hr])
    have HE : Hid (v = true) := Lib.hid (by rw [← HV.out]; unfold rightS; rw [HK.out, HU.out, HT.out]; rfl)
    go_wp2_with (go_at_call 122; refine (rbit_as _ _ hu _).mono ?_; rintro e w9 ⟨rfl, b9⟩; obtain ⟨z0c0', z0c1', z0c2', z0c3'⟩ := (z0.on b9).zb4; have BW9 := Below.step BW b9)
    go_ret
    exact ⟨ret_bool HE.out.symm, BW9⟩
set_option maxHeartbeats 2000000 in
theorem rright_7 {k p q r : Int} {w : World} (n : Nat) (hn : n ≤ 1000000) (e0 : (k == 0) = false) (h0k : ¬ k = 0) (e7 : (k == 7) = true) (h7k : Hid (k = 7)) (hms : manyS k = 1) (hk : kindS k = true) (v : Bool) (hv : rightS n ⟨k, p, q, r⟩ = v) :
  Calls Try.prog 105 #[.agg #[.int .i64 k, .int .i64 p, .int .i64 q, .int .i64 r], .int .i64 n] w fun e w' => e = .returned (.bool v) ∧ Below w.heap.size w w' := by
 have HV := Lib.hid hv
 have HK := Lib.hid hk
 have HMI : Hid (manyI k = 1) := Lib.hid (by unfold manyI; rw [hk, hms]; rfl)
 clear hv hk
 go_enter Try.func105, Try.ntmps105
 go_upto_region 1 with fail
 obtain ⟨w1, e_w1, z0, BW⟩ := zmB w [.int .i64 k, .int .i64 p, .int .i64 q, .int .i64 r] 43
 rw [e_w1]
 clear e_w1
 have z0c0 := z0.2 0 _ rfl
 go_wp2_with fail
 refine (many_as k 1 HMI.out _).mono ?_
 rintro e w2 ⟨rfl, b⟩
 replace z0 := z0.on b
 replace BW := Below.step BW b
 clear b z0c0
 obtain ⟨z0c0, z0c1, z0c2, z0c3⟩ := z0.zb4
 go_wp2_with fail
 refine (ruses_as k p q r _).mono ?_
 rintro e w3 ⟨A, mm, c, rfl, hi, hm3, b⟩
 replace z0 := z0.on b
 replace BW := Below.step BW b
 clear b z0c0 z0c1 z0c2 z0c3
 have HLN := Lib.hid hi.1
 go_wp2_with fail
 go_loopw [7] (fun i wr => ∃ j : Nat, j ≤ mm ∧ i = .int .i64 j ∧ ((usesS ⟨k, p, q, r⟩).take j).all (placeS n) = true ∧ Below w3.heap.size w3 wr) (fun i _ => mm - (intOf i).toNat)
 case atStart => exact ⟨0, Nat.zero_le _, rfl, rfl, Below.refl _ _⟩
 case round =>
  obtain ⟨j, hj, rfl, ha, BR⟩ := hrel
  have HA := Lib.hid ha
  clear ha
  by_cases hlt : j < mm
  ·obtain ⟨b1, off1, x, eA, HX, cx⟩ := (hi.on BR).at hlt
   subst eA
   have hj0 : (0 : Int) ≤ (j : Int) := by omega
   have hjm : (j : Int) < (mm : Int) := by omega
   have key : placeS n x = false → v = false := fun h => by
    rw [← HV.out]
    unfold rightS
    rw [notall HX.out h, Bool.false_and, Bool.and_false]
   have HKEY := Lib.hid key
   clear key
   by_cases h0 : x < 0
   case pos =>
    have HE : Hid (v = false) := Lib.hid (HKEY.out (by unfold placeS; simp; omega))
    go_wp2_with fail
    go_ret
    exact ⟨ret_bool HE.out.symm, Below.step BW BR⟩
   by_cases h1 : (n : Int) ≤ x
   case pos =>
    have HE : Hid (v = false) := Lib.hid (HKEY.out (by unfold placeS; simp; omega))
    go_wp2_with fail
    go_ret
    exact ⟨ret_bool HE.out.symm, Below.step BW BR⟩
   have HT := Lib.hid (takeall HA.out HX.out (show placeS n x = true by unfold placeS; simp; omega))
   go_wp2_with fail
   go_roundw
   case rel => exact ⟨j + 1, by omega, by go_num, HT.out, BR⟩
   case measure => simp [intOf]; omega
  ·have HU : Hid ((usesS ⟨k, p, q, r⟩).all (placeS n) = true) := Lib.hid (by have := HA.out; rwa [List.take_of_length_le (by rw [HLN.out]; omega)] at this)
   replace z0 := z0.on BR
   replace BW := Below.step BW BR
   obtain ⟨z0c0, z0c1, z0c2, z0c3⟩ := z0.zb4
   clear BR
   obtain ⟨u, hu⟩ : ∃ u, bitS q = u := ⟨_, rfl⟩
   cases u
   ·have HT : Hid (tailS ⟨k, p, q, r⟩ = false) := Lib.hid (by simp [tailS, h7k.out, hu])
    have HE : Hid (v = false) := Lib.hid (by rw [← HV.out]; unfold rightS; rw [HK.out, HU.out, HT.out]; rfl)
    go_wp2_with (go_at_call 122; refine (rbit_as _ _ hu _).mono ?_; rintro e w9 ⟨rfl, b9⟩; obtain ⟨z0c0', z0c1', z0c2', z0c3'⟩ := (z0.on b9).zb4; have BW9 := Below.step BW b9)
    go_ret
    exact ⟨ret_bool HE.out.symm, BW9⟩
   ·by_cases hr : r = 0
    case neg =>
     have gr := beq_ff hr
     have HT : Hid (tailS ⟨k, p, q, r⟩ = false) := Lib.hid (by simp [tailS, h7k.out, hu, hr])
     have HE : Hid (v = false) := Lib.hid (by rw [← HV.out]; unfold rightS; rw [HK.out, HU.out, HT.out]; rfl)
     go_wp2_with (go_at_call 122; refine (rbit_as _ _ hu _).mono ?_; rintro e w9 ⟨rfl, b9⟩; obtain ⟨z0c0', z0c1', z0c2', z0c3'⟩ := (z0.on b9).zb4; have BW9 := Below.step BW b9)
     go_ret
     exact ⟨ret_bool HE.out.symm, BW9⟩
    have gr := beq_tt hr
    have HT : Hid (tailS ⟨k, p, q, r⟩ = true) := Lib.hid (by simp [tailS, h7k.out, hu, hr])
    have HE : Hid (v = true) := Lib.hid (by rw [← HV.out]; unfold rightS; rw [HK.out, HU.out, HT.out]; rfl)
    go_wp2_with (go_at_call 122; refine (rbit_as _ _ hu _).mono ?_; rintro e w9 ⟨rfl, b9⟩; obtain ⟨z0c0', z0c1', z0c2', z0c3'⟩ := (z0.on b9).zb4; have BW9 := Below.step BW b9)
    go_ret
    exact ⟨ret_bool HE.out.symm, BW9⟩
set_option maxHeartbeats 2000000 in
theorem rright_m0 {k p q r : Int} {w : World} (n : Nat) (hn : n ≤ 1000000) (e0 : (k == 0) = false) (h0k : ¬ k = 0) (e7 : (k == 7) = false) (h7k : ¬ k = 7) (hms : manyS k = 0) (hk : kindS k = true) (v : Bool) (hv : rightS n ⟨k, p, q, r⟩ = v) :
  Calls Try.prog 105 #[.agg #[.int .i64 k, .int .i64 p, .int .i64 q, .int .i64 r], .int .i64 n] w fun e w' => e = .returned (.bool v) ∧ Below w.heap.size w w' := by
 have HV := Lib.hid hv
 have HK := Lib.hid hk
 have HMI : Hid (manyI k = 0) := Lib.hid (by unfold manyI; rw [hk, hms]; rfl)
 clear hv hk
 go_enter Try.func105, Try.ntmps105
 go_upto_region 1 with fail
 obtain ⟨w1, e_w1, z0, BW⟩ := zmB w [.int .i64 k, .int .i64 p, .int .i64 q, .int .i64 r] 43
 rw [e_w1]
 clear e_w1
 have z0c0 := z0.2 0 _ rfl
 go_wp2_with fail
 refine (many_as k 0 HMI.out _).mono ?_
 rintro e w2 ⟨rfl, b⟩
 replace z0 := z0.on b
 replace BW := Below.step BW b
 clear b z0c0
 obtain ⟨z0c0, z0c1, z0c2, z0c3⟩ := z0.zb4
 go_wp2_with fail
 refine (ruses_as k p q r _).mono ?_
 rintro e w3 ⟨A, mm, c, rfl, hi, hm3, b⟩
 replace z0 := z0.on b
 replace BW := Below.step BW b
 clear b z0c0 z0c1 z0c2 z0c3
 have HLN := Lib.hid hi.1
 go_wp2_with fail
 go_loopw [7] (fun i wr => ∃ j : Nat, j ≤ mm ∧ i = .int .i64 j ∧ ((usesS ⟨k, p, q, r⟩).take j).all (placeS n) = true ∧ Below w3.heap.size w3 wr) (fun i _ => mm - (intOf i).toNat)
 case atStart => exact ⟨0, Nat.zero_le _, rfl, rfl, Below.refl _ _⟩
 case round =>
  obtain ⟨j, hj, rfl, ha, BR⟩ := hrel
  have HA := Lib.hid ha
  clear ha
  by_cases hlt : j < mm
  ·obtain ⟨b1, off1, x, eA, HX, cx⟩ := (hi.on BR).at hlt
   subst eA
   have hj0 : (0 : Int) ≤ (j : Int) := by omega
   have hjm : (j : Int) < (mm : Int) := by omega
   have key : placeS n x = false → v = false := fun h => by
    rw [← HV.out]
    unfold rightS
    rw [notall HX.out h, Bool.false_and, Bool.and_false]
   have HKEY := Lib.hid key
   clear key
   by_cases h0 : x < 0
   case pos =>
    have HE : Hid (v = false) := Lib.hid (HKEY.out (by unfold placeS; simp; omega))
    go_wp2_with fail
    go_ret
    exact ⟨ret_bool HE.out.symm, Below.step BW BR⟩
   by_cases h1 : (n : Int) ≤ x
   case pos =>
    have HE : Hid (v = false) := Lib.hid (HKEY.out (by unfold placeS; simp; omega))
    go_wp2_with fail
    go_ret
    exact ⟨ret_bool HE.out.symm, Below.step BW BR⟩
   have HT := Lib.hid (takeall HA.out HX.out (show placeS n x = true by unfold placeS; simp; omega))
   go_wp2_with fail
   go_roundw
   case rel => exact ⟨j + 1, by omega, by go_num, HT.out, BR⟩
   case measure => simp [intOf]; omega
  ·have HU : Hid ((usesS ⟨k, p, q, r⟩).all (placeS n) = true) := Lib.hid (by have := HA.out; rwa [List.take_of_length_le (by rw [HLN.out]; omega)] at this)
   replace z0 := z0.on BR
   replace BW := Below.step BW BR
   obtain ⟨z0c0, z0c1, z0c2, z0c3⟩ := z0.zb4
   clear BR
   by_cases hp : p = 0
   case neg =>
    have gp := beq_ff hp
    have HT : Hid (tailS ⟨k, p, q, r⟩ = false) := Lib.hid (by simp [tailS, h0k, h7k, hms, hp])
    have HE : Hid (v = false) := Lib.hid (by rw [← HV.out]; unfold rightS; rw [HK.out, HU.out, HT.out]; rfl)
    go_wp2_with (go_at_call 122; refine (rbit_as _ _ hu _).mono ?_; rintro e w9 ⟨rfl, b9⟩; obtain ⟨z0c0', z0c1', z0c2', z0c3'⟩ := (z0.on b9).zb4; have BW9 := Below.step BW b9)
    go_ret
    exact ⟨ret_bool HE.out.symm, BW⟩
   have gp := beq_tt hp
   by_cases hq : q = 0
   case neg =>
    have gq := beq_ff hq
    have HT : Hid (tailS ⟨k, p, q, r⟩ = false) := Lib.hid (by simp [tailS, h0k, h7k, hms, hp, hq])
    have HE : Hid (v = false) := Lib.hid (by rw [← HV.out]; unfold rightS; rw [HK.out, HU.out, HT.out]; rfl)
    go_wp2_with (go_at_call 122; refine (rbit_as _ _ hu _).mono ?_; rintro e w9 ⟨rfl, b9⟩; obtain ⟨z0c0', z0c1', z0c2', z0c3'⟩ := (z0.on b9).zb4; have BW9 := Below.step BW b9)
    go_ret
    exact ⟨ret_bool HE.out.symm, BW⟩
   have gq := beq_tt hq
   by_cases hr : r = 0
   case neg =>
    have gr := beq_ff hr
    have HT : Hid (tailS ⟨k, p, q, r⟩ = false) := Lib.hid (by simp [tailS, h0k, h7k, hms, hp, hq, hr])
    have HE : Hid (v = false) := Lib.hid (by rw [← HV.out]; unfold rightS; rw [HK.out, HU.out, HT.out]; rfl)
    go_wp2_with (go_at_call 122; refine (rbit_as _ _ hu _).mono ?_; rintro e w9 ⟨rfl, b9⟩; obtain ⟨z0c0', z0c1', z0c2', z0c3'⟩ := (z0.on b9).zb4; have BW9 := Below.step BW b9)
    go_ret
    exact ⟨ret_bool HE.out.symm, BW⟩
   have gr := beq_tt hr
   have HT : Hid (tailS ⟨k, p, q, r⟩ = true) := Lib.hid (by simp [tailS, h0k, h7k, hms, hp, hq, hr])
   have HE : Hid (v = true) := Lib.hid (by rw [← HV.out]; unfold rightS; rw [HK.out, HU.out, HT.out]; rfl)
   go_wp2_with (go_at_call 122; refine (rbit_as _ _ hu _).mono ?_; rintro e w9 ⟨rfl, b9⟩; obtain ⟨z0c0', z0c1', z0c2', z0c3'⟩ := (z0.on b9).zb4; have BW9 := Below.step BW b9)
   go_ret
   exact ⟨ret_bool HE.out.symm, BW⟩
set_option maxHeartbeats 2000000 in
theorem rright_m1 {k p q r : Int} {w : World} (n : Nat) (hn : n ≤ 1000000) (e0 : (k == 0) = false) (h0k : ¬ k = 0) (e7 : (k == 7) = false) (h7k : ¬ k = 7) (hms : manyS k = 1) (hk : kindS k = true) (v : Bool) (hv : rightS n ⟨k, p, q, r⟩ = v) :
  Calls Try.prog 105 #[.agg #[.int .i64 k, .int .i64 p, .int .i64 q, .int .i64 r], .int .i64 n] w fun e w' => e = .returned (.bool v) ∧ Below w.heap.size w w' := by
 have HV := Lib.hid hv
 have HK := Lib.hid hk
 have HMI : Hid (manyI k = 1) := Lib.hid (by unfold manyI; rw [hk, hms]; rfl)
 clear hv hk
 go_enter Try.func105, Try.ntmps105
 go_upto_region 1 with fail
 obtain ⟨w1, e_w1, z0, BW⟩ := zmB w [.int .i64 k, .int .i64 p, .int .i64 q, .int .i64 r] 43
 rw [e_w1]
 clear e_w1
 have z0c0 := z0.2 0 _ rfl
 go_wp2_with fail
 refine (many_as k 1 HMI.out _).mono ?_
 rintro e w2 ⟨rfl, b⟩
 replace z0 := z0.on b
 replace BW := Below.step BW b
 clear b z0c0
 obtain ⟨z0c0, z0c1, z0c2, z0c3⟩ := z0.zb4
 go_wp2_with fail
 refine (ruses_as k p q r _).mono ?_
 rintro e w3 ⟨A, mm, c, rfl, hi, hm3, b⟩
 replace z0 := z0.on b
 replace BW := Below.step BW b
 clear b z0c0 z0c1 z0c2 z0c3
 have HLN := Lib.hid hi.1
 go_wp2_with fail
 go_loopw [7] (fun i wr => ∃ j : Nat, j ≤ mm ∧ i = .int .i64 j ∧ ((usesS ⟨k, p, q, r⟩).take j).all (placeS n) = true ∧ Below w3.heap.size w3 wr) (fun i _ => mm - (intOf i).toNat)
 case atStart => exact ⟨0, Nat.zero_le _, rfl, rfl, Below.refl _ _⟩
 case round =>
  obtain ⟨j, hj, rfl, ha, BR⟩ := hrel
  have HA := Lib.hid ha
  clear ha
  by_cases hlt : j < mm
  ·obtain ⟨b1, off1, x, eA, HX, cx⟩ := (hi.on BR).at hlt
   subst eA
   have hj0 : (0 : Int) ≤ (j : Int) := by omega
   have hjm : (j : Int) < (mm : Int) := by omega
   have key : placeS n x = false → v = false := fun h => by
    rw [← HV.out]
    unfold rightS
    rw [notall HX.out h, Bool.false_and, Bool.and_false]
   have HKEY := Lib.hid key
   clear key
   by_cases h0 : x < 0
   case pos =>
    have HE : Hid (v = false) := Lib.hid (HKEY.out (by unfold placeS; simp; omega))
    go_wp2_with fail
    go_ret
    exact ⟨ret_bool HE.out.symm, Below.step BW BR⟩
   by_cases h1 : (n : Int) ≤ x
   case pos =>
    have HE : Hid (v = false) := Lib.hid (HKEY.out (by unfold placeS; simp; omega))
    go_wp2_with fail
    go_ret
    exact ⟨ret_bool HE.out.symm, Below.step BW BR⟩
   have HT := Lib.hid (takeall HA.out HX.out (show placeS n x = true by unfold placeS; simp; omega))
   go_wp2_with fail
   go_roundw
   case rel => exact ⟨j + 1, by omega, by go_num, HT.out, BR⟩
   case measure => simp [intOf]; omega
  ·have HU : Hid ((usesS ⟨k, p, q, r⟩).all (placeS n) = true) := Lib.hid (by have := HA.out; rwa [List.take_of_length_le (by rw [HLN.out]; omega)] at this)
   replace z0 := z0.on BR
   replace BW := Below.step BW BR
   obtain ⟨z0c0, z0c1, z0c2, z0c3⟩ := z0.zb4
   clear BR
   by_cases hq : q = 0
   case neg =>
    have gq := beq_ff hq
    have HT : Hid (tailS ⟨k, p, q, r⟩ = false) := Lib.hid (by simp [tailS, h0k, h7k, hms, hq])
    have HE : Hid (v = false) := Lib.hid (by rw [← HV.out]; unfold rightS; rw [HK.out, HU.out, HT.out]; rfl)
    go_wp2_with (go_at_call 122; refine (rbit_as _ _ hu _).mono ?_; rintro e w9 ⟨rfl, b9⟩; obtain ⟨z0c0', z0c1', z0c2', z0c3'⟩ := (z0.on b9).zb4; have BW9 := Below.step BW b9)
    go_ret
    exact ⟨ret_bool HE.out.symm, BW⟩
   have gq := beq_tt hq
   by_cases hr : r = 0
   case neg =>
    have gr := beq_ff hr
    have HT : Hid (tailS ⟨k, p, q, r⟩ = false) := Lib.hid (by simp [tailS, h0k, h7k, hms, hq, hr])
    have HE : Hid (v = false) := Lib.hid (by rw [← HV.out]; unfold rightS; rw [HK.out, HU.out, HT.out]; rfl)
    go_wp2_with (go_at_call 122; refine (rbit_as _ _ hu _).mono ?_; rintro e w9 ⟨rfl, b9⟩; obtain ⟨z0c0', z0c1', z0c2', z0c3'⟩ := (z0.on b9).zb4; have BW9 := Below.step BW b9)
    go_ret
    exact ⟨ret_bool HE.out.symm, BW⟩
   have gr := beq_tt hr
   have HT : Hid (tailS ⟨k, p, q, r⟩ = true) := Lib.hid (by simp [tailS, h0k, h7k, hms, hq, hr])
   have HE : Hid (v = true) := Lib.hid (by rw [← HV.out]; unfold rightS; rw [HK.out, HU.out, HT.out]; rfl)
   go_wp2_with (go_at_call 122; refine (rbit_as _ _ hu _).mono ?_; rintro e w9 ⟨rfl, b9⟩; obtain ⟨z0c0', z0c1', z0c2', z0c3'⟩ := (z0.on b9).zb4; have BW9 := Below.step BW b9)
   go_ret
   exact ⟨ret_bool HE.out.symm, BW⟩
set_option maxHeartbeats 2000000 in
theorem rright_m2 {k p q r : Int} {w : World} (n : Nat) (hn : n ≤ 1000000) (e0 : (k == 0) = false) (h0k : ¬ k = 0) (e7 : (k == 7) = false) (h7k : ¬ k = 7) (hms : manyS k = 2) (hk : kindS k = true) (v : Bool) (hv : rightS n ⟨k, p, q, r⟩ = v) :
  Calls Try.prog 105 #[.agg #[.int .i64 k, .int .i64 p, .int .i64 q, .int .i64 r], .int .i64 n] w fun e w' => e = .returned (.bool v) ∧ Below w.heap.size w w' := by
 have HV := Lib.hid hv
 have HK := Lib.hid hk
 have HMI : Hid (manyI k = 2) := Lib.hid (by unfold manyI; rw [hk, hms]; rfl)
 clear hv hk
 go_enter Try.func105, Try.ntmps105
 go_upto_region 1 with fail
 obtain ⟨w1, e_w1, z0, BW⟩ := zmB w [.int .i64 k, .int .i64 p, .int .i64 q, .int .i64 r] 43
 rw [e_w1]
 clear e_w1
 have z0c0 := z0.2 0 _ rfl
 go_wp2_with fail
 refine (many_as k 2 HMI.out _).mono ?_
 rintro e w2 ⟨rfl, b⟩
 replace z0 := z0.on b
 replace BW := Below.step BW b
 clear b z0c0
 obtain ⟨z0c0, z0c1, z0c2, z0c3⟩ := z0.zb4
 go_wp2_with fail
 refine (ruses_as k p q r _).mono ?_
 rintro e w3 ⟨A, mm, c, rfl, hi, hm3, b⟩
 replace z0 := z0.on b
 replace BW := Below.step BW b
 clear b z0c0 z0c1 z0c2 z0c3
 have HLN := Lib.hid hi.1
 go_wp2_with fail
 go_loopw [7] (fun i wr => ∃ j : Nat, j ≤ mm ∧ i = .int .i64 j ∧ ((usesS ⟨k, p, q, r⟩).take j).all (placeS n) = true ∧ Below w3.heap.size w3 wr) (fun i _ => mm - (intOf i).toNat)
 case atStart => exact ⟨0, Nat.zero_le _, rfl, rfl, Below.refl _ _⟩
 case round =>
  obtain ⟨j, hj, rfl, ha, BR⟩ := hrel
  have HA := Lib.hid ha
  clear ha
  by_cases hlt : j < mm
  ·obtain ⟨b1, off1, x, eA, HX, cx⟩ := (hi.on BR).at hlt
   subst eA
   have hj0 : (0 : Int) ≤ (j : Int) := by omega
   have hjm : (j : Int) < (mm : Int) := by omega
   have key : placeS n x = false → v = false := fun h => by
    rw [← HV.out]
    unfold rightS
    rw [notall HX.out h, Bool.false_and, Bool.and_false]
   have HKEY := Lib.hid key
   clear key
   by_cases h0 : x < 0
   case pos =>
    have HE : Hid (v = false) := Lib.hid (HKEY.out (by unfold placeS; simp; omega))
    go_wp2_with fail
    go_ret
    exact ⟨ret_bool HE.out.symm, Below.step BW BR⟩
   by_cases h1 : (n : Int) ≤ x
   case pos =>
    have HE : Hid (v = false) := Lib.hid (HKEY.out (by unfold placeS; simp; omega))
    go_wp2_with fail
    go_ret
    exact ⟨ret_bool HE.out.symm, Below.step BW BR⟩
   have HT := Lib.hid (takeall HA.out HX.out (show placeS n x = true by unfold placeS; simp; omega))
   go_wp2_with fail
   go_roundw
   case rel => exact ⟨j + 1, by omega, by go_num, HT.out, BR⟩
   case measure => simp [intOf]; omega
  ·have HU : Hid ((usesS ⟨k, p, q, r⟩).all (placeS n) = true) := Lib.hid (by have := HA.out; rwa [List.take_of_length_le (by rw [HLN.out]; omega)] at this)
   replace z0 := z0.on BR
   replace BW := Below.step BW BR
   obtain ⟨z0c0, z0c1, z0c2, z0c3⟩ := z0.zb4
   clear BR
   by_cases hr : r = 0
   case neg =>
    have gr := beq_ff hr
    have HT : Hid (tailS ⟨k, p, q, r⟩ = false) := Lib.hid (by simp [tailS, h0k, h7k, hms, hr])
    have HE : Hid (v = false) := Lib.hid (by rw [← HV.out]; unfold rightS; rw [HK.out, HU.out, HT.out]; rfl)
    go_wp2_with (go_at_call 122; refine (rbit_as _ _ hu _).mono ?_; rintro e w9 ⟨rfl, b9⟩; obtain ⟨z0c0', z0c1', z0c2', z0c3'⟩ := (z0.on b9).zb4; have BW9 := Below.step BW b9)
    go_ret
    exact ⟨ret_bool HE.out.symm, BW⟩
   have gr := beq_tt hr
   have HT : Hid (tailS ⟨k, p, q, r⟩ = true) := Lib.hid (by simp [tailS, h0k, h7k, hms, hr])
   have HE : Hid (v = true) := Lib.hid (by rw [← HV.out]; unfold rightS; rw [HK.out, HU.out, HT.out]; rfl)
   go_wp2_with (go_at_call 122; refine (rbit_as _ _ hu _).mono ?_; rintro e w9 ⟨rfl, b9⟩; obtain ⟨z0c0', z0c1', z0c2', z0c3'⟩ := (z0.on b9).zb4; have BW9 := Below.step BW b9)
   go_ret
   exact ⟨ret_bool HE.out.symm, BW⟩
set_option maxHeartbeats 2000000 in
theorem rright_m3 {k p q r : Int} {w : World} (n : Nat) (hn : n ≤ 1000000) (e0 : (k == 0) = false) (h0k : ¬ k = 0) (e7 : (k == 7) = false) (h7k : ¬ k = 7) (hms : manyS k = 3) (hk : kindS k = true) (v : Bool) (hv : rightS n ⟨k, p, q, r⟩ = v) :
  Calls Try.prog 105 #[.agg #[.int .i64 k, .int .i64 p, .int .i64 q, .int .i64 r], .int .i64 n] w fun e w' => e = .returned (.bool v) ∧ Below w.heap.size w w' := by
 have HV := Lib.hid hv
 have HK := Lib.hid hk
 have HMI : Hid (manyI k = 3) := Lib.hid (by unfold manyI; rw [hk, hms]; rfl)
 clear hv hk
 go_enter Try.func105, Try.ntmps105
 go_upto_region 1 with fail
 obtain ⟨w1, e_w1, z0, BW⟩ := zmB w [.int .i64 k, .int .i64 p, .int .i64 q, .int .i64 r] 43
 rw [e_w1]
 clear e_w1
 have z0c0 := z0.2 0 _ rfl
 go_wp2_with fail
 refine (many_as k 3 HMI.out _).mono ?_
 rintro e w2 ⟨rfl, b⟩
 replace z0 := z0.on b
 replace BW := Below.step BW b
 clear b z0c0
 obtain ⟨z0c0, z0c1, z0c2, z0c3⟩ := z0.zb4
 go_wp2_with fail
 refine (ruses_as k p q r _).mono ?_
 rintro e w3 ⟨A, mm, c, rfl, hi, hm3, b⟩
 replace z0 := z0.on b
 replace BW := Below.step BW b
 clear b z0c0 z0c1 z0c2 z0c3
 have HLN := Lib.hid hi.1
 go_wp2_with fail
 go_loopw [7] (fun i wr => ∃ j : Nat, j ≤ mm ∧ i = .int .i64 j ∧ ((usesS ⟨k, p, q, r⟩).take j).all (placeS n) = true ∧ Below w3.heap.size w3 wr) (fun i _ => mm - (intOf i).toNat)
 case atStart => exact ⟨0, Nat.zero_le _, rfl, rfl, Below.refl _ _⟩
 case round =>
  obtain ⟨j, hj, rfl, ha, BR⟩ := hrel
  have HA := Lib.hid ha
  clear ha
  by_cases hlt : j < mm
  ·obtain ⟨b1, off1, x, eA, HX, cx⟩ := (hi.on BR).at hlt
   subst eA
   have hj0 : (0 : Int) ≤ (j : Int) := by omega
   have hjm : (j : Int) < (mm : Int) := by omega
   have key : placeS n x = false → v = false := fun h => by
    rw [← HV.out]
    unfold rightS
    rw [notall HX.out h, Bool.false_and, Bool.and_false]
   have HKEY := Lib.hid key
   clear key
   by_cases h0 : x < 0
   case pos =>
    have HE : Hid (v = false) := Lib.hid (HKEY.out (by unfold placeS; simp; omega))
    go_wp2_with fail
    go_ret
    exact ⟨ret_bool HE.out.symm, Below.step BW BR⟩
   by_cases h1 : (n : Int) ≤ x
   case pos =>
    have HE : Hid (v = false) := Lib.hid (HKEY.out (by unfold placeS; simp; omega))
    go_wp2_with fail
    go_ret
    exact ⟨ret_bool HE.out.symm, Below.step BW BR⟩
   have HT := Lib.hid (takeall HA.out HX.out (show placeS n x = true by unfold placeS; simp; omega))
   go_wp2_with fail
   go_roundw
   case rel => exact ⟨j + 1, by omega, by go_num, HT.out, BR⟩
   case measure => simp [intOf]; omega
  ·have HU : Hid ((usesS ⟨k, p, q, r⟩).all (placeS n) = true) := Lib.hid (by have := HA.out; rwa [List.take_of_length_le (by rw [HLN.out]; omega)] at this)
   replace z0 := z0.on BR
   replace BW := Below.step BW BR
   obtain ⟨z0c0, z0c1, z0c2, z0c3⟩ := z0.zb4
   clear BR
   have HT : Hid (tailS ⟨k, p, q, r⟩ = true) := Lib.hid (by simp [tailS, h0k, h7k, hms])
   have HE : Hid (v = true) := Lib.hid (by rw [← HV.out]; unfold rightS; rw [HK.out, HU.out, HT.out]; rfl)
   go_wp2_with (go_at_call 122; refine (rbit_as _ _ hu _).mono ?_; rintro e w9 ⟨rfl, b9⟩; obtain ⟨z0c0', z0c1', z0c2', z0c3'⟩ := (z0.on b9).zb4; have BW9 := Below.step BW b9)
   go_ret
   exact ⟨ret_bool HE.out.symm, BW⟩
theorem rright_none {k p q r : Int} {w : World} (n : Nat) (hk : kindS k = false) (v : Bool) (hv : rightS n ⟨k, p, q, r⟩ = v) : Calls Try.prog 105 #[.agg #[.int .i64 k, .int .i64 p, .int .i64 q, .int .i64 r], .int .i64 n] w fun e w' => e = .returned (.bool v) ∧ Below w.heap.size w w' := by
 have HV : Hid (v = false) := Lib.hid (by rw [← hv]; unfold rightS; rw [hk]; rfl)
 have HMI : Hid (manyI k = -1) := Lib.hid (by unfold manyI; rw [hk]; rfl)
 clear hv hk
 go_enter Try.func105, Try.ntmps105
 go_upto_region 1 with fail
 obtain ⟨w1, e_w1, z0, BW⟩ := zmB w [.int .i64 k, .int .i64 p, .int .i64 q, .int .i64 r] 43
 rw [e_w1]
 clear e_w1
 have z0c0 := z0.2 0 _ rfl
 go_wp2_with fail
 refine (many_as k (-1) HMI.out _).mono ?_
 rintro e w2 ⟨rfl, b⟩
 replace BW := Below.step BW b
 go_wp2_with fail
 go_ret
 exact ⟨ret_bool HV.out.symm, BW⟩
theorem rright_as (k p q r : Int) (w : World) (n : Nat) (hn : n ≤ 1000000) (v : Bool) (hv : formedS n ⟨k, p, q, r⟩ = v) : Calls Try.prog 105 #[.agg #[.int .i64 k, .int .i64 p, .int .i64 q, .int .i64 r], .int .i64 n] w fun e w' => e = .returned (.bool v) ∧ Below w.heap.size w w' := by
 rw [← right_formed] at hv
 cases hk : kindS k with
 | false => exact rright_none n hk v hv
 | true =>
  have h8 : k = 0 ∨ k = 1 ∨ k = 2 ∨ k = 3 ∨ k = 4 ∨ k = 5 ∨ k = 6 ∨ k = 7 := by
   unfold kindS at hk
   simp only [Bool.and_eq_true, decide_eq_true_eq] at hk
   omega
  rcases h8 with h | h | h | h | h | h | h | h
  ·exact rright_0 n hn (beq_tt h) (Lib.hid h) (by subst h; rfl) hk v hv
  ·exact rright_m0 n hn (beq_ff (by omega)) (by omega) (beq_ff (by omega)) (by omega) (by subst h; rfl) hk v hv
  ·exact rright_m1 n hn (beq_ff (by omega)) (by omega) (beq_ff (by omega)) (by omega) (by subst h; rfl) hk v hv
  ·exact rright_m2 n hn (beq_ff (by omega)) (by omega) (beq_ff (by omega)) (by omega) (by subst h; rfl) hk v hv
  ·exact rright_m2 n hn (beq_ff (by omega)) (by omega) (beq_ff (by omega)) (by omega) (by subst h; rfl) hk v hv
  ·exact rright_m2 n hn (beq_ff (by omega)) (by omega) (beq_ff (by omega)) (by omega) (by subst h; rfl) hk v hv
  ·exact rright_m3 n hn (beq_ff (by omega)) (by omega) (beq_ff (by omega)) (by omega) (by subst h; rfl) hk v hv
  ·exact rright_7 n hn (beq_ff (by omega)) (by omega) (beq_tt h) (Lib.hid h) (by subst h; rfl) hk v hv
set_option maxRecDepth 4000
theorem need_lt {n : Nat} {x : Nd} (h : formedS n x = true) : ∀ j ∈ needS x, j < n := by
 intro j hj
 unfold needS at hj
 split at hj
 ·cases hj
 ·obtain ⟨p, hp, rfl⟩ := List.mem_map.1 hj
  unfold formedS at h
  simp only [Bool.and_eq_true] at h
  have := List.all_eq_true.1 h.2.2.1 p hp
  unfold placeS at this
  simp only [Bool.and_eq_true, decide_eq_true_eq] at this
  omega
theorem wrongS_ok {N : List Nd} {I O : List Pt} : wrongS N I O = 0 ↔ ¬ 64 < I.length + O.length ∧ N.all (formedS N.length) = true ∧ (I ++ O).all (bitsS N.length) = true ∧ (I ++ O).all (fun p => nameS p.name) = true ∧ dupS (I ++ O) = false ∧ fedS N I = true := by
 unfold wrongS
 constructor
 ·intro h
  split at h
  ·cases h
  ·rename_i h1
   split at h
   ·rename_i h2
    rw [Bool.and_eq_true] at h2
    split at h
    ·rename_i h3
     split at h
     ·cases h
     ·rename_i h4
      split at h
      ·rename_i h5
       exact ⟨h1, h2.1, h2.2, h3, by simpa using h4, h5⟩
      ·cases h
    ·cases h
   ·cases h
 ·rintro ⟨h1, h2, h3, h4, h5, h6⟩
  rw [if_neg h1, h2, h3, h4, h5, h6]
  rfl
end Go.Proofs.Ytcehklnonhalhaa
