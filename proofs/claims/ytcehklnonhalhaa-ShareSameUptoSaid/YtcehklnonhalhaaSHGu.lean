/-
  What the proofs of ShareSame and ShareLeft need: Gu.
-/
import Derived.Test.YtcehklnonhalhaaSHGt
namespace Go.Proofs.Ytcehklnonhalhaa
open Go.RowKit
set_option linter.unusedVariables false
set_option maxRecDepth 4000

/-- how many places a kind uses; below 0: it is none. -/
def manyI (k : Int) : Int := if kindS k then (manyS k : Int) else -1
theorem many_0 (k : Int) (w : World)  (h : (k == 0) = true) : Calls Try.prog 47 #[.int .i64 k] w fun e w' => e = .returned (.int .i64 0) ∧ Below w.heap.size w w' := by
  go_enter Try.func47, Try.ntmps47
  go_wp2_with fail
  go_ret
  exact ⟨rfl, Below.refl _ _⟩
theorem many_1 (k : Int) (w : World) (h0 : (k == 0) = false) (h : (k == 1) = true) : Calls Try.prog 47 #[.int .i64 k] w fun e w' => e = .returned (.int .i64 0) ∧ Below w.heap.size w w' := by
  go_enter Try.func47, Try.ntmps47
  go_wp2_with fail
  go_ret
  exact ⟨rfl, Below.refl _ _⟩
theorem many_2 (k : Int) (w : World) (h0 : (k == 0) = false) (h1 : (k == 1) = false) (h : (k == 2) = true) : Calls Try.prog 47 #[.int .i64 k] w fun e w' => e = .returned (.int .i64 1) ∧ Below w.heap.size w w' := by
  go_enter Try.func47, Try.ntmps47
  go_wp2_with fail
  go_ret
  exact ⟨rfl, Below.refl _ _⟩
theorem many_7 (k : Int) (w : World) (h0 : (k == 0) = false) (h1 : (k == 1) = false) (h2 : (k == 2) = false) (h : (k == 7) = true) : Calls Try.prog 47 #[.int .i64 k] w fun e w' => e = .returned (.int .i64 1) ∧ Below w.heap.size w w' := by
  go_enter Try.func47, Try.ntmps47
  go_wp2_with fail
  go_ret
  exact ⟨rfl, Below.refl _ _⟩
theorem many_3 (k : Int) (w : World) (h0 : (k == 0) = false) (h1 : (k == 1) = false) (h2 : (k == 2) = false) (h7 : (k == 7) = false) (h : (k == 3) = true) : Calls Try.prog 47 #[.int .i64 k] w fun e w' => e = .returned (.int .i64 2) ∧ Below w.heap.size w w' := by
  go_enter Try.func47, Try.ntmps47
  go_wp2_with fail
  go_ret
  exact ⟨rfl, Below.refl _ _⟩
theorem many_4 (k : Int) (w : World) (h0 : (k == 0) = false) (h1 : (k == 1) = false) (h2 : (k == 2) = false) (h7 : (k == 7) = false) (h3 : (k == 3) = false) (h : (k == 4) = true) : Calls Try.prog 47 #[.int .i64 k] w fun e w' => e = .returned (.int .i64 2) ∧ Below w.heap.size w w' := by
  go_enter Try.func47, Try.ntmps47
  go_wp2_with fail
  go_ret
  exact ⟨rfl, Below.refl _ _⟩
theorem many_5 (k : Int) (w : World) (h0 : (k == 0) = false) (h1 : (k == 1) = false) (h2 : (k == 2) = false) (h7 : (k == 7) = false) (h3 : (k == 3) = false) (h4 : (k == 4) = false) (h : (k == 5) = true) : Calls Try.prog 47 #[.int .i64 k] w fun e w' => e = .returned (.int .i64 2) ∧ Below w.heap.size w w' := by
  go_enter Try.func47, Try.ntmps47
  go_wp2_with fail
  go_ret
  exact ⟨rfl, Below.refl _ _⟩
theorem many_6 (k : Int) (w : World) (h0 : (k == 0) = false) (h1 : (k == 1) = false) (h2 : (k == 2) = false) (h7 : (k == 7) = false) (h3 : (k == 3) = false) (h4 : (k == 4) = false) (h5 : (k == 5) = false) (h : (k == 6) = true) : Calls Try.prog 47 #[.int .i64 k] w fun e w' => e = .returned (.int .i64 3) ∧ Below w.heap.size w w' := by
  go_enter Try.func47, Try.ntmps47
  go_wp2_with fail
  go_ret
  exact ⟨rfl, Below.refl _ _⟩
theorem many_no (k : Int) (w : World) (h0 : (k == 0) = false) (h1 : (k == 1) = false) (h2 : (k == 2) = false) (h7 : (k == 7) = false) (h3 : (k == 3) = false) (h4 : (k == 4) = false) (h5 : (k == 5) = false) (h6 : (k == 6) = false) : Calls Try.prog 47 #[.int .i64 k] w fun e w' => e = .returned (.int .i64 (-1)) ∧ Below w.heap.size w w' := by
  go_enter Try.func47, Try.ntmps47
  go_wp2_with fail
  go_ret
  exact ⟨rfl, Below.refl _ _⟩
theorem many_as (k v : Int) (hv : manyI k = v) (w : World) : Calls Try.prog 47 #[.int .i64 k] w fun e w' => e = .returned (.int .i64 v) ∧ Below w.heap.size w w' := by
  subst hv
  by_cases h0 : k = 0
  · have e : manyI k = 0 := by subst h0; rfl
    rw [e]
    exact many_0 k w  (beq_tt h0)
  by_cases h1 : k = 1
  · have e : manyI k = 0 := by subst h1; rfl
    rw [e]
    exact many_1 k w (beq_ff h0) (beq_tt h1)
  by_cases h2 : k = 2
  · have e : manyI k = 1 := by subst h2; rfl
    rw [e]
    exact many_2 k w (beq_ff h0) (beq_ff h1) (beq_tt h2)
  by_cases h7 : k = 7
  · have e : manyI k = 1 := by subst h7; rfl
    rw [e]
    exact many_7 k w (beq_ff h0) (beq_ff h1) (beq_ff h2) (beq_tt h7)
  by_cases h3 : k = 3
  · have e : manyI k = 2 := by subst h3; rfl
    rw [e]
    exact many_3 k w (beq_ff h0) (beq_ff h1) (beq_ff h2) (beq_ff h7) (beq_tt h3)
  by_cases h4 : k = 4
  · have e : manyI k = 2 := by subst h4; rfl
    rw [e]
    exact many_4 k w (beq_ff h0) (beq_ff h1) (beq_ff h2) (beq_ff h7) (beq_ff h3) (beq_tt h4)
  by_cases h5 : k = 5
  · have e : manyI k = 2 := by subst h5; rfl
    rw [e]
    exact many_5 k w (beq_ff h0) (beq_ff h1) (beq_ff h2) (beq_ff h7) (beq_ff h3) (beq_ff h4) (beq_tt h5)
  by_cases h6 : k = 6
  · have e : manyI k = 3 := by subst h6; rfl
    rw [e]
    exact many_6 k w (beq_ff h0) (beq_ff h1) (beq_ff h2) (beq_ff h7) (beq_ff h3) (beq_ff h4) (beq_ff h5) (beq_tt h6)
  have e : manyI k = -1 := by
    unfold manyI kindS
    rw [if_neg]
    simp only [Bool.and_eq_true, decide_eq_true_eq]
    omega
  rw [e]
  exact many_no k w (beq_ff h0) (beq_ff h1) (beq_ff h2) (beq_ff h7) (beq_ff h3) (beq_ff h4) (beq_ff h5) (beq_ff h6)
theorem many_max (k : Int) : max (manyI k) 0 = (manyS k : Int) := by
  unfold manyI
  split
  · omega
  · rename_i h
    have : manyS k = 0 := by
      unfold kindS at h
      simp only [Bool.and_eq_true, decide_eq_true_eq] at h
      unfold manyS
      rw [if_neg (by omega), if_neg (by omega), if_neg (by omega)]
    rw [this]
    rfl
set_option maxHeartbeats 1000000 in
theorem ruses_t (k p q r : Int) (w : World) (hk : kindS k = true) : Calls Try.prog 21 #[.agg #[.int .i64 k, .int .i64 p, .int .i64 q, .int .i64 r]] w fun en w' => ∃ A m c, en = .returned (.slice A m c) ∧ Is w' A m (usesS ⟨k, p, q, r⟩) ∧ m ≤ 3 ∧ Below w.heap.size w w' := by
  obtain ⟨m, hm⟩ : ∃ m, manyS k = m := ⟨_, rfl⟩
  have hm3 : (m : Int) ≤ 3 := by have := manyS_le k; omega
  have hm0 : (0 : Int) ≤ (m : Int) := by omega
  have HM := Lib.hid hm
  have HLN : Hid ((usesS ⟨k, p, q, r⟩).length = m) := Lib.hid (by rw [usesS_length]; exact hm)
  obtain ⟨v, hv⟩ : ∃ v, manyI k = v := ⟨_, rfl⟩
  have HV := Lib.hid hv
  obtain rfl : (m : Int) = v := by rw [← hv, ← hm]; unfold manyI; rw [if_pos hk]
  have hmn : ¬ (m : Int) < 0 := by omega
  clear hm hv
  go_enter Try.func21, Try.ntmps21
  go_upto_region 1 with fail
  obtain ⟨w1, e_w1⟩ : ∃ w', w.alloc (.cells #[.int .i64 k, .int .i64 p, .int .i64 q, .int .i64 r] 43) = w' := ⟨_, rfl⟩
  have z0 : Bx w1 w.heap.size [.int .i64 k, .int .i64 p, .int .i64 q, .int .i64 r] := e_w1 ▸ Bx.made_k w rfl #[.int .i64 k, .int .i64 p, .int .i64 q, .int .i64 r] 43
  have b1 : Below w.heap.size w w1 := e_w1 ▸ below_lit _ _
  rw [e_w1]
  clear e_w1
  have z0c1 := z0.2 1 _ rfl
  have z0c2 := z0.2 2 _ rfl
  have z0c3 := z0.2 3 _ rfl
  go_upto_region 2 with fail
  obtain ⟨w2, e_w2⟩ : ∃ w', w1.alloc (.cells #[.int .i64 p, .int .i64 q, .int .i64 r] 3) = w' := ⟨_, rfl⟩
  have z1 : Bx w2 w1.heap.size [.int .i64 p, .int .i64 q, .int .i64 r] := e_w2 ▸ Bx.made_k w1 rfl #[.int .i64 p, .int .i64 q, .int .i64 r] 3
  have b2 : Below w1.heap.size w1 w2 := e_w2 ▸ below_lit _ _
  rw [e_w2]
  clear e_w2 z0c1 z0c2 z0c3
  have BW := Below.step b1 b2
  replace z0 := z0.on b2
  have z0c0 := z0.2 0 _ rfl
  clear b1 b2
  go_wp2_with fail
  refine (many_as k m HV.out _).mono ?_
  rintro en w3 ⟨rfl, b3⟩
  replace z1 := z1.on b3
  replace BW := Below.step BW b3
  clear z0c0 b3
  go_wp2_with fail
  refine bodyPost_ret (v := .slice (some ⟨w1.heap.size, 0, none⟩) m 3) (by simp [results, Try.results21, go_sem]) rfl ?_
  refine ⟨_, m, _, rfl, ⟨HLN.out, fun j x hx => ⟨_, 0, rfl, z1.1, ?_⟩⟩, by omega, BW⟩
  rw [Nat.zero_add]
  exact z1.2 j _ (take_at j x (by rw [HM.out, ← HLN.out]; exact (List.getElem?_eq_some_iff.1 hx).1) hx)
set_option maxHeartbeats 1000000 in
theorem ruses_f (k p q r : Int) (w : World) (hk : kindS k = false) : Calls Try.prog 21 #[.agg #[.int .i64 k, .int .i64 p, .int .i64 q, .int .i64 r]] w fun en w' => ∃ A m c, en = .returned (.slice A m c) ∧ Is w' A m (usesS ⟨k, p, q, r⟩) ∧ m ≤ 3 ∧ Below w.heap.size w w' := by
  obtain ⟨m, hm⟩ : ∃ m, manyS k = m := ⟨_, rfl⟩
  have hm3 : (m : Int) ≤ 3 := by have := manyS_le k; omega
  have hm0 : (0 : Int) ≤ (m : Int) := by omega
  have HM := Lib.hid hm
  have HLN : Hid ((usesS ⟨k, p, q, r⟩).length = m) := Lib.hid (by rw [usesS_length]; exact hm)
  obtain ⟨v, hv⟩ : ∃ v, manyI k = v := ⟨_, rfl⟩
  have HV := Lib.hid hv
  obtain rfl : -1 = v := by rw [← hv]; unfold manyI; rw [hk]; rfl
  obtain rfl : 0 = m := by have := many_max k; unfold manyI at this; rw [hk] at this; simp at this; omega
  clear hm hv
  go_enter Try.func21, Try.ntmps21
  go_upto_region 1 with fail
  obtain ⟨w1, e_w1⟩ : ∃ w', w.alloc (.cells #[.int .i64 k, .int .i64 p, .int .i64 q, .int .i64 r] 43) = w' := ⟨_, rfl⟩
  have z0 : Bx w1 w.heap.size [.int .i64 k, .int .i64 p, .int .i64 q, .int .i64 r] := e_w1 ▸ Bx.made_k w rfl #[.int .i64 k, .int .i64 p, .int .i64 q, .int .i64 r] 43
  have b1 : Below w.heap.size w w1 := e_w1 ▸ below_lit _ _
  rw [e_w1]
  clear e_w1
  have z0c1 := z0.2 1 _ rfl
  have z0c2 := z0.2 2 _ rfl
  have z0c3 := z0.2 3 _ rfl
  go_upto_region 2 with fail
  obtain ⟨w2, e_w2⟩ : ∃ w', w1.alloc (.cells #[.int .i64 p, .int .i64 q, .int .i64 r] 3) = w' := ⟨_, rfl⟩
  have z1 : Bx w2 w1.heap.size [.int .i64 p, .int .i64 q, .int .i64 r] := e_w2 ▸ Bx.made_k w1 rfl #[.int .i64 p, .int .i64 q, .int .i64 r] 3
  have b2 : Below w1.heap.size w1 w2 := e_w2 ▸ below_lit _ _
  rw [e_w2]
  clear e_w2 z0c1 z0c2 z0c3
  have BW := Below.step b1 b2
  replace z0 := z0.on b2
  have z0c0 := z0.2 0 _ rfl
  clear b1 b2
  go_wp2_with fail
  refine (many_as k (-1) HV.out _).mono ?_
  rintro en w3 ⟨rfl, b3⟩
  replace z1 := z1.on b3
  replace BW := Below.step BW b3
  clear z0c0 b3
  go_wp2_with fail
  refine bodyPost_ret (v := .slice (some ⟨w1.heap.size, 0, none⟩) 0 3) (by simp [results, Try.results21, go_sem]) rfl ?_
  refine ⟨_, 0, _, rfl, ⟨HLN.out, fun j x hx => ⟨_, 0, rfl, z1.1, ?_⟩⟩, by omega, BW⟩
  rw [Nat.zero_add]
  exact z1.2 j _ (take_at j x (by rw [HM.out, ← HLN.out]; exact (List.getElem?_eq_some_iff.1 hx).1) hx)
/-- THE REFERENCE'S USES. -/
theorem ruses_as (k p q r : Int) (w : World) : Calls Try.prog 21 #[.agg #[.int .i64 k, .int .i64 p, .int .i64 q, .int .i64 r]] w fun en w' => ∃ A m c, en = .returned (.slice A m c) ∧ Is w' A m (usesS ⟨k, p, q, r⟩) ∧ m ≤ 3 ∧ Below w.heap.size w w' := by
  cases h : kindS k
  · exact ruses_f k p q r w h
  · exact ruses_t k p q r w h
theorem rbit_as (n : Int) (v : Bool) (hv : bitS n = v) (w : World) : Calls Try.prog 122 #[.int .i64 n] w fun e w' => e = .returned (.bool v) ∧ Below w.heap.size w w' := by
  unfold bitS at hv
  by_cases h0 : n = 0
  · have e0 := beq_tt h0
    obtain rfl : true = v := by rw [← hv]; simp [h0]
    go_enter Try.func122, Try.ntmps122
    go_wp2_with fail
    go_ret
    exact ⟨rfl, Below.refl _ _⟩
  · have e0 := beq_ff h0
    by_cases h1 : n = 1
    · have e1 := beq_tt h1
      obtain rfl : true = v := by rw [← hv]; simp [h1]
      go_enter Try.func122, Try.ntmps122
      go_wp2_with fail
      go_ret
      exact ⟨rfl, Below.refl _ _⟩
    · have e1 := beq_ff h1
      obtain rfl : false = v := by rw [← hv]; simp [h0, h1]
      go_enter Try.func122, Try.ntmps122
      go_wp2_with fail
      go_ret
      exact ⟨rfl, Below.refl _ _⟩
end Go.Proofs.Ytcehklnonhalhaa
