/-
  What the proofs of ShareSame and ShareLeft need: Ys.
-/
import Derived.Test.YtcehklnonhalhaaSHGu
import Derived.Test.YtcehklnonhalhaaSHGf
namespace Go.Proofs.Ytcehklnonhalhaa
open Go.RowKit
set_option linter.unusedVariables false
set_option maxRecDepth 4000

set_option maxHeartbeats 1000000 in
theorem rusesW_t (k p q r : Int) (w : World) (hk : kindS k = true) : Calls Try.prog 21 #[.agg #[.int .i64 k, .int .i64 p, .int .i64 q, .int .i64 r]] w fun en w' => ∃ A m c, en = .returned (.slice A m c) ∧ Is w' A m (usesS ⟨k, p, q, r⟩) ∧ m ≤ 3 ∧ Sw A m c ∧ Below w.heap.size w w' := by
  obtain ⟨m, hm⟩ : ∃ m, manyS k = m := ⟨_, rfl⟩
  have hm3 : (m : Int) ≤ 3 := by have := manyS_le k; omega
  have hm0 : (0 : Int) ≤ (m : Int) := by omega
  have HM := Lib.hid hm
  have HLN : Hid ((usesS ⟨k, p, q, r⟩).length = m) := Lib.hid (by rw [usesS_length]; exact hm)
  obtain ⟨v, hv⟩ : ∃ v, manyI k = v := ⟨_, rfl⟩
  have HV := Lib.hid hv
  obtain rfl : (m : Int) = v := by rw [← hv, ← hm]; unfold manyI; rw [if_pos hk]
  have hmn : ¬ (m : Int) < 0 := by omega
  clear hm hv
  go_enter Try.func21, Try.ntmps21
  go_upto_region 1 with fail
  obtain ⟨w1, e_w1⟩ : ∃ w', w.alloc (.cells #[.int .i64 k, .int .i64 p, .int .i64 q, .int .i64 r] 43) = w' := ⟨_, rfl⟩
  have z0 : Bx w1 w.heap.size [.int .i64 k, .int .i64 p, .int .i64 q, .int .i64 r] := e_w1 ▸ Bx.made_k w rfl #[.int .i64 k, .int .i64 p, .int .i64 q, .int .i64 r] 43
  have b1 : Below w.heap.size w w1 := e_w1 ▸ below_lit _ _
  rw [e_w1]
  clear e_w1
  have z0c1 := z0.2 1 _ rfl
  have z0c2 := z0.2 2 _ rfl
  have z0c3 := z0.2 3 _ rfl
  go_upto_region 2 with fail
  obtain ⟨w2, e_w2⟩ : ∃ w', w1.alloc (.cells #[.int .i64 p, .int .i64 q, .int .i64 r] 3) = w' := ⟨_, rfl⟩
  have z1 : Bx w2 w1.heap.size [.int .i64 p, .int .i64 q, .int .i64 r] := e_w2 ▸ Bx.made_k w1 rfl #[.int .i64 p, .int .i64 q, .int .i64 r] 3
  have b2 : Below w1.heap.size w1 w2 := e_w2 ▸ below_lit _ _
  rw [e_w2]
  clear e_w2 z0c1 z0c2 z0c3
  have BW := Below.step b1 b2
  replace z0 := z0.on b2
  have z0c0 := z0.2 0 _ rfl
  clear b1 b2
  go_wp2_with fail
  refine (many_as k m HV.out _).mono ?_
  rintro en w3 ⟨rfl, b3⟩
  replace z1 := z1.on b3
  replace BW := Below.step BW b3
  clear z0c0 b3
  go_wp2_with fail
  refine bodyPost_ret (v := .slice (some ⟨w1.heap.size, 0, none⟩) m 3) (by simp [results, Try.results21, go_sem]) rfl ?_
  refine ⟨_, m, _, rfl, ⟨HLN.out, fun j x hx => ⟨_, 0, rfl, z1.1, ?_⟩⟩, by omega, ⟨by omega, by unfold maxLen; omega, fun e => by cases e⟩, BW⟩
  rw [Nat.zero_add]
  exact z1.2 j _ (take_at j x (by rw [HM.out, ← HLN.out]; exact (List.getElem?_eq_some_iff.1 hx).1) hx)
set_option maxHeartbeats 1000000 in
theorem rusesW_f (k p q r : Int) (w : World) (hk : kindS k = false) : Calls Try.prog 21 #[.agg #[.int .i64 k, .int .i64 p, .int .i64 q, .int .i64 r]] w fun en w' => ∃ A m c, en = .returned (.slice A m c) ∧ Is w' A m (usesS ⟨k, p, q, r⟩) ∧ m ≤ 3 ∧ Sw A m c ∧ Below w.heap.size w w' := by
  obtain ⟨m, hm⟩ : ∃ m, manyS k = m := ⟨_, rfl⟩
  have hm3 : (m : Int) ≤ 3 := by have := manyS_le k; omega
  have hm0 : (0 : Int) ≤ (m : Int) := by omega
  have HM := Lib.hid hm
  have HLN : Hid ((usesS ⟨k, p, q, r⟩).length = m) := Lib.hid (by rw [usesS_length]; exact hm)
  obtain ⟨v, hv⟩ : ∃ v, manyI k = v := ⟨_, rfl⟩
  have HV := Lib.hid hv
  obtain rfl : -1 = v := by rw [← hv]; unfold manyI; rw [hk]; rfl
  obtain rfl : 0 = m := by have := many_max k; unfold manyI at this; rw [hk] at this; simp at this; omega
  clear hm hv
  go_enter Try.func21, Try.ntmps21
  go_upto_region 1 with fail
  obtain ⟨w1, e_w1⟩ : ∃ w', w.alloc (.cells #[.int .i64 k, .int .i64 p, .int .i64 q, .int .i64 r] 43) = w' := ⟨_, rfl⟩
  have z0 : Bx w1 w.heap.size [.int .i64 k, .int .i64 p, .int .i64 q, .int .i64 r] := e_w1 ▸ Bx.made_k w rfl #[.int .i64 k, .int .i64 p, .int .i64 q, .int .i64 r] 43
  have b1 : Below w.heap.size w w1 := e_w1 ▸ below_lit _ _
  rw [e_w1]
  clear e_w1
  have z0c1 := z0.2 1 _ rfl
  have z0c2 := z0.2 2 _ rfl
  have z0c3 := z0.2 3 _ rfl
  go_upto_region 2 with fail
  obtain ⟨w2, e_w2⟩ : ∃ w', w1.alloc (.cells #[.int .i64 p, .int .i64 q, .int .i64 r] 3) = w' := ⟨_, rfl⟩
  have z1 : Bx w2 w1.heap.size [.int .i64 p, .int .i64 q, .int .i64 r] := e_w2 ▸ Bx.made_k w1 rfl #[.int .i64 p, .int .i64 q, .int .i64 r] 3
  have b2 : Below w1.heap.size w1 w2 := e_w2 ▸ below_lit _ _
  rw [e_w2]
  clear e_w2 z0c1 z0c2 z0c3
  have BW := Below.step b1 b2
  replace z0 := z0.on b2
  have z0c0 := z0.2 0 _ rfl
  clear b1 b2
  go_wp2_with fail
  refine (many_as k (-1) HV.out _).mono ?_
  rintro en w3 ⟨rfl, b3⟩
  replace z1 := z1.on b3
  replace BW := Below.step BW b3
  clear z0c0 b3
  go_wp2_with fail
  refine bodyPost_ret (v := .slice (some ⟨w1.heap.size, 0, none⟩) 0 3) (by simp [results, Try.results21, go_sem]) rfl ?_
  refine ⟨_, 0, _, rfl, ⟨HLN.out, fun j x hx => ⟨_, 0, rfl, z1.1, ?_⟩⟩, by omega, ⟨by omega, by unfold maxLen; omega, fun e => by cases e⟩, BW⟩
  rw [Nat.zero_add]
  exact z1.2 j _ (take_at j x (by rw [HM.out, ← HLN.out]; exact (List.getElem?_eq_some_iff.1 hx).1) hx)
/-- THE REFERENCE'S USES, as a slice that may be appended. -/
theorem rusesW_as (k p q r : Int) (w : World) : Calls Try.prog 21 #[.agg #[.int .i64 k, .int .i64 p, .int .i64 q, .int .i64 r]] w fun en w' => ∃ A m c, en = .returned (.slice A m c) ∧ Is w' A m (usesS ⟨k, p, q, r⟩) ∧ m ≤ 3 ∧ Sw A m c ∧ Below w.heap.size w w' := by
  cases h : kindS k
  · exact rusesW_f k p q r w h
  · exact rusesW_t k p q r w h
end Go.Proofs.Ytcehklnonhalhaa
