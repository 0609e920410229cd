/-
  What the proofs of OptSweeps and OptSettles need: Yg.
-/
import Derived.Test.YtcehklnonhalhaaSOYf
import Derived.Laws.StructEq
namespace Go.Proofs.Ytcehklnonhalhaa
open Go.RowKit
set_option linter.unusedVariables false
set_option maxRecDepth 4000
attribute [local go_sem ↓] node_eql node_neq

theorem isC_one {M : List Nd} {a : Int} (h : isC M a 0 = true) : isC M a 1 = false := by
  unfold isC at *
  have := (sameN_iff _ _).1 h
  rw [this]
  decide
set_option maxHeartbeats 4000000 in
theorem andOr0_0 {w : World} {p : Nat} {M : List Nd} {S : List Int} (h : Fr w p M S) (k c q : Int) (a b : Nat) (ha : a < M.length) (hb : b < M.length) (c0 : isC M (a : Int) 0 = true) : Calls Try.prog 114 #[.pointer (some ⟨p, 0, none⟩), .agg #[.int .i64 k, .int .i64 (a : Int), .int .i64 (b : Int), .int .i64 c], .int .i64 q, .int .i64 0] w fun e w' => e = .returned (.tuple #[.agg #[.int .i64 0, .int .i64 0, .int .i64 0, .int .i64 0], .int .i64 q]) ∧ Below w.heap.size w w' := by
  go_enter Try.func114, Try.ntmps114
  go_upto_region 1 with fail
  obtain ⟨w1, e1⟩ : ∃ w', (w.alloc (.cells #[.int .i64 k, .int .i64 (a : Int), .int .i64 (b : Int), .int .i64 c] 43)).alloc (.cells #[.int .i64 0, .int .i64 0, .int .i64 0, .int .i64 0] 43) = w' := ⟨_, rfl⟩
  have z0 : Bx w1 w.heap.size [.int .i64 k, .int .i64 (a : Int), .int .i64 (b : Int), .int .i64 c] := by
    rw [← e1]
    exact (Bx.made_k w rfl #[.int .i64 k, .int .i64 (a : Int), .int .i64 (b : Int), .int .i64 c] 43).on (below_lit _ _)
  have ZR : Own w1 (w.heap.size + 1) 43 [.int .i64 0, .int .i64 0, .int .i64 0, .int .i64 0] := by
    rw [← e1, ← size_lit w (.cells #[.int .i64 k, .int .i64 (a : Int), .int .i64 (b : Int), .int .i64 c] 43) rfl]
    exact Own.made _ 43 [.int .i64 0, .int .i64 0, .int .i64 0, .int .i64 0]
  have BW : Below w.heap.size w w1 := by rw [← e1]; exact below2 _ _ _
  replace h := h.on BW
  obtain ⟨s1, hs1⟩ : ∃ s1, w.heap.size + 1 = s1 := ⟨_, rfl⟩
  have hle : w.heap.size ≤ s1 := by omega
  have hne : w.heap.size ≠ s1 := by omega
  rw [e1]
  clear e1
  rw [hs1] at ZR ⊢
  have z0c0 := z0.2 0 _ rfl; have z0c1 := z0.2 1 _ rfl; have z0c2 := z0.2 2 _ rfl; have z0c3 := z0.2 3 _ rfl; have zr0 : _ = some (Value.int .i64 0) := ZR.cell 0; have zf0 := ZR.free 0; have zr1 : _ = some (Value.int .i64 0) := ZR.cell 1; have zf1 := ZR.free 1; have zr2 : _ = some (Value.int .i64 0) := ZR.cell 2; have zf2 := ZR.free 2; have zr3 : _ = some (Value.int .i64 0) := ZR.cell 3; have zf3 := ZR.free 3
  go_wp2_with (first | (go_at_call 126; (first | with_reducible refine (isConst_as h a ha 0 true c0).mono ?_); (rintro en w2 ⟨rfl, b⟩; clear z0c0 z0c1 z0c2 z0c3 zr0 zr1 zr2 zr3 zf0 zf1 zf2 zf3; replace h := h.on b; replace z0 := z0.on b; replace ZR := ZR.below b ZR.lt; replace BW := Below.step BW b; clear b; have z0c0 := z0.2 0 _ rfl; have z0c1 := z0.2 1 _ rfl; have z0c2 := z0.2 2 _ rfl; have z0c3 := z0.2 3 _ rfl; have zr0 : _ = some (Value.int .i64 0) := ZR.cell 0; have zf0 := ZR.free 0; have zr1 : _ = some (Value.int .i64 0) := ZR.cell 1; have zf1 := ZR.free 1; have zr2 : _ = some (Value.int .i64 0) := ZR.cell 2; have zf2 := ZR.free 2; have zr3 : _ = some (Value.int .i64 0) := ZR.cell 3; have zf3 := ZR.free 3)) | (go_at_call 125; (first | with_reducible refine (constant_as 0 _).mono ?_); (rintro en w2 ⟨rfl, b⟩; clear z0c0 z0c1 z0c2 z0c3 zr0 zr1 zr2 zr3 zf0 zf1 zf2 zf3; replace h := h.on b; replace z0 := z0.on b; replace ZR := ZR.below b ZR.lt; replace BW := Below.step BW b; clear b; have z0c0 := z0.2 0 _ rfl; have z0c1 := z0.2 1 _ rfl; have z0c2 := z0.2 2 _ rfl; have z0c3 := z0.2 3 _ rfl; have zr0 : _ = some (Value.int .i64 0) := ZR.cell 0; have zf0 := ZR.free 0; have zr1 : _ = some (Value.int .i64 0) := ZR.cell 1; have zf1 := ZR.free 1; have zr2 : _ = some (Value.int .i64 0) := ZR.cell 2; have zf2 := ZR.free 2; have zr3 : _ = some (Value.int .i64 0) := ZR.cell 3; have zf3 := ZR.free 3)))
  have VR := (((ZR.put 0 (.int .i64 0)).put 1 (.int .i64 0)).put 2 (.int .i64 0)).put 3 (.int .i64 0)
  have p0 : _ = some (Value.int .i64 0) := VR.cell 0; have p1 : _ = some (Value.int .i64 0) := VR.cell 1; have p2 : _ = some (Value.int .i64 0) := VR.cell 2; have p3 : _ = some (Value.int .i64 0) := VR.cell 3
  refine bodyPost_ret (v := .tuple #[.agg #[.int .i64 0, .int .i64 0, .int .i64 0, .int .i64 0], .int .i64 q]) (by simp [results, Try.results114, go_sem, p0, p1, p2, p3]) rfl ⟨rfl, ((((BW.setCell (p := ⟨s1, 0, none⟩) hle (.int .i64 0)).setCell (p := ⟨s1, 1, none⟩) hle (.int .i64 0)).setCell (p := ⟨s1, 2, none⟩) hle (.int .i64 0)).setCell (p := ⟨s1, 3, none⟩) hle (.int .i64 0))⟩
set_option maxHeartbeats 4000000 in
theorem andOr0_1 {w : World} {p : Nat} {M : List Nd} {S : List Int} (h : Fr w p M S) (k c q : Int) (a b : Nat) (ha : a < M.length) (hb : b < M.length) (c0 : isC M (a : Int) 0 = false) (c1 : isC M (b : Int) 0 = true) : Calls Try.prog 114 #[.pointer (some ⟨p, 0, none⟩), .agg #[.int .i64 k, .int .i64 (a : Int), .int .i64 (b : Int), .int .i64 c], .int .i64 q, .int .i64 0] w fun e w' => e = .returned (.tuple #[.agg #[.int .i64 0, .int .i64 0, .int .i64 0, .int .i64 0], .int .i64 q]) ∧ Below w.heap.size w w' := by
  go_enter Try.func114, Try.ntmps114
  go_upto_region 1 with fail
  obtain ⟨w1, e1⟩ : ∃ w', (w.alloc (.cells #[.int .i64 k, .int .i64 (a : Int), .int .i64 (b : Int), .int .i64 c] 43)).alloc (.cells #[.int .i64 0, .int .i64 0, .int .i64 0, .int .i64 0] 43) = w' := ⟨_, rfl⟩
  have z0 : Bx w1 w.heap.size [.int .i64 k, .int .i64 (a : Int), .int .i64 (b : Int), .int .i64 c] := by
    rw [← e1]
    exact (Bx.made_k w rfl #[.int .i64 k, .int .i64 (a : Int), .int .i64 (b : Int), .int .i64 c] 43).on (below_lit _ _)
  have ZR : Own w1 (w.heap.size + 1) 43 [.int .i64 0, .int .i64 0, .int .i64 0, .int .i64 0] := by
    rw [← e1, ← size_lit w (.cells #[.int .i64 k, .int .i64 (a : Int), .int .i64 (b : Int), .int .i64 c] 43) rfl]
    exact Own.made _ 43 [.int .i64 0, .int .i64 0, .int .i64 0, .int .i64 0]
  have BW : Below w.heap.size w w1 := by rw [← e1]; exact below2 _ _ _
  replace h := h.on BW
  obtain ⟨s1, hs1⟩ : ∃ s1, w.heap.size + 1 = s1 := ⟨_, rfl⟩
  have hle : w.heap.size ≤ s1 := by omega
  have hne : w.heap.size ≠ s1 := by omega
  rw [e1]
  clear e1
  rw [hs1] at ZR ⊢
  have z0c0 := z0.2 0 _ rfl; have z0c1 := z0.2 1 _ rfl; have z0c2 := z0.2 2 _ rfl; have z0c3 := z0.2 3 _ rfl; have zr0 : _ = some (Value.int .i64 0) := ZR.cell 0; have zf0 := ZR.free 0; have zr1 : _ = some (Value.int .i64 0) := ZR.cell 1; have zf1 := ZR.free 1; have zr2 : _ = some (Value.int .i64 0) := ZR.cell 2; have zf2 := ZR.free 2; have zr3 : _ = some (Value.int .i64 0) := ZR.cell 3; have zf3 := ZR.free 3
  go_wp2_with (first | (go_at_call 126; (first | with_reducible refine (isConst_as h a ha 0 false c0).mono ?_ | with_reducible refine (isConst_as h b hb 0 true c1).mono ?_); (rintro en w2 ⟨rfl, b⟩; clear z0c0 z0c1 z0c2 z0c3 zr0 zr1 zr2 zr3 zf0 zf1 zf2 zf3; replace h := h.on b; replace z0 := z0.on b; replace ZR := ZR.below b ZR.lt; replace BW := Below.step BW b; clear b; have z0c0 := z0.2 0 _ rfl; have z0c1 := z0.2 1 _ rfl; have z0c2 := z0.2 2 _ rfl; have z0c3 := z0.2 3 _ rfl; have zr0 : _ = some (Value.int .i64 0) := ZR.cell 0; have zf0 := ZR.free 0; have zr1 : _ = some (Value.int .i64 0) := ZR.cell 1; have zf1 := ZR.free 1; have zr2 : _ = some (Value.int .i64 0) := ZR.cell 2; have zf2 := ZR.free 2; have zr3 : _ = some (Value.int .i64 0) := ZR.cell 3; have zf3 := ZR.free 3)) | (go_at_call 125; (first | with_reducible refine (constant_as 0 _).mono ?_); (rintro en w2 ⟨rfl, b⟩; clear z0c0 z0c1 z0c2 z0c3 zr0 zr1 zr2 zr3 zf0 zf1 zf2 zf3; replace h := h.on b; replace z0 := z0.on b; replace ZR := ZR.below b ZR.lt; replace BW := Below.step BW b; clear b; have z0c0 := z0.2 0 _ rfl; have z0c1 := z0.2 1 _ rfl; have z0c2 := z0.2 2 _ rfl; have z0c3 := z0.2 3 _ rfl; have zr0 : _ = some (Value.int .i64 0) := ZR.cell 0; have zf0 := ZR.free 0; have zr1 : _ = some (Value.int .i64 0) := ZR.cell 1; have zf1 := ZR.free 1; have zr2 : _ = some (Value.int .i64 0) := ZR.cell 2; have zf2 := ZR.free 2; have zr3 : _ = some (Value.int .i64 0) := ZR.cell 3; have zf3 := ZR.free 3)))
  have VR := (((ZR.put 0 (.int .i64 0)).put 1 (.int .i64 0)).put 2 (.int .i64 0)).put 3 (.int .i64 0)
  have p0 : _ = some (Value.int .i64 0) := VR.cell 0; have p1 : _ = some (Value.int .i64 0) := VR.cell 1; have p2 : _ = some (Value.int .i64 0) := VR.cell 2; have p3 : _ = some (Value.int .i64 0) := VR.cell 3
  refine bodyPost_ret (v := .tuple #[.agg #[.int .i64 0, .int .i64 0, .int .i64 0, .int .i64 0], .int .i64 q]) (by simp [results, Try.results114, go_sem, p0, p1, p2, p3]) rfl ⟨rfl, ((((BW.setCell (p := ⟨s1, 0, none⟩) hle (.int .i64 0)).setCell (p := ⟨s1, 1, none⟩) hle (.int .i64 0)).setCell (p := ⟨s1, 2, none⟩) hle (.int .i64 0)).setCell (p := ⟨s1, 3, none⟩) hle (.int .i64 0))⟩
set_option maxHeartbeats 4000000 in
theorem andOr0_2 {w : World} {p : Nat} {M : List Nd} {S : List Int} (h : Fr w p M S) (k c q : Int) (a b : Nat) (ha : a < M.length) (hb : b < M.length) (c0 : isC M (a : Int) 0 = false) (c1 : isC M (b : Int) 0 = false) (c2 : isC M (a : Int) 1 = true) : Calls Try.prog 114 #[.pointer (some ⟨p, 0, none⟩), .agg #[.int .i64 k, .int .i64 (a : Int), .int .i64 (b : Int), .int .i64 c], .int .i64 q, .int .i64 0] w fun e w' => e = .returned (.tuple #[.agg #[.int .i64 k, .int .i64 (a : Int), .int .i64 (b : Int), .int .i64 c], .int .i64 (b : Int)]) ∧ Below w.heap.size w w' := by
  go_enter Try.func114, Try.ntmps114
  go_upto_region 1 with fail
  obtain ⟨w1, e1⟩ : ∃ w', (w.alloc (.cells #[.int .i64 k, .int .i64 (a : Int), .int .i64 (b : Int), .int .i64 c] 43)).alloc (.cells #[.int .i64 0, .int .i64 0, .int .i64 0, .int .i64 0] 43) = w' := ⟨_, rfl⟩
  have z0 : Bx w1 w.heap.size [.int .i64 k, .int .i64 (a : Int), .int .i64 (b : Int), .int .i64 c] := by
    rw [← e1]
    exact (Bx.made_k w rfl #[.int .i64 k, .int .i64 (a : Int), .int .i64 (b : Int), .int .i64 c] 43).on (below_lit _ _)
  have ZR : Own w1 (w.heap.size + 1) 43 [.int .i64 0, .int .i64 0, .int .i64 0, .int .i64 0] := by
    rw [← e1, ← size_lit w (.cells #[.int .i64 k, .int .i64 (a : Int), .int .i64 (b : Int), .int .i64 c] 43) rfl]
    exact Own.made _ 43 [.int .i64 0, .int .i64 0, .int .i64 0, .int .i64 0]
  have BW : Below w.heap.size w w1 := by rw [← e1]; exact below2 _ _ _
  replace h := h.on BW
  obtain ⟨s1, hs1⟩ : ∃ s1, w.heap.size + 1 = s1 := ⟨_, rfl⟩
  have hle : w.heap.size ≤ s1 := by omega
  have hne : w.heap.size ≠ s1 := by omega
  rw [e1]
  clear e1
  rw [hs1] at ZR ⊢
  have z0c0 := z0.2 0 _ rfl; have z0c1 := z0.2 1 _ rfl; have z0c2 := z0.2 2 _ rfl; have z0c3 := z0.2 3 _ rfl; have zr0 : _ = some (Value.int .i64 0) := ZR.cell 0; have zf0 := ZR.free 0; have zr1 : _ = some (Value.int .i64 0) := ZR.cell 1; have zf1 := ZR.free 1; have zr2 : _ = some (Value.int .i64 0) := ZR.cell 2; have zf2 := ZR.free 2; have zr3 : _ = some (Value.int .i64 0) := ZR.cell 3; have zf3 := ZR.free 3
  go_wp2_with (first | (go_at_call 126; (first | with_reducible refine (isConst_as h a ha 0 false c0).mono ?_ | with_reducible refine (isConst_as h b hb 0 false c1).mono ?_ | with_reducible refine (isConst_as h a ha 1 true c2).mono ?_); (rintro en w2 ⟨rfl, b⟩; clear z0c0 z0c1 z0c2 z0c3 zr0 zr1 zr2 zr3 zf0 zf1 zf2 zf3; replace h := h.on b; replace z0 := z0.on b; replace ZR := ZR.below b ZR.lt; replace BW := Below.step BW b; clear b; have z0c0 := z0.2 0 _ rfl; have z0c1 := z0.2 1 _ rfl; have z0c2 := z0.2 2 _ rfl; have z0c3 := z0.2 3 _ rfl; have zr0 : _ = some (Value.int .i64 0) := ZR.cell 0; have zf0 := ZR.free 0; have zr1 : _ = some (Value.int .i64 0) := ZR.cell 1; have zf1 := ZR.free 1; have zr2 : _ = some (Value.int .i64 0) := ZR.cell 2; have zf2 := ZR.free 2; have zr3 : _ = some (Value.int .i64 0) := ZR.cell 3; have zf3 := ZR.free 3)))
  have bd : Below w2.heap.size w2 w2.drew := (Below.refl _ _).drew
  have y0c0 := (z0.on bd).2 0 _ rfl; have y0c1 := (z0.on bd).2 1 _ rfl; have y0c2 := (z0.on bd).2 2 _ rfl; have y0c3 := (z0.on bd).2 3 _ rfl
  have YR := ZR.below bd ZR.lt
  have yr0 : _ = some (Value.int .i64 0) := YR.cell 0; have yf0 := YR.free 0; have yr1 : _ = some (Value.int .i64 0) := YR.cell 1; have yf1 := YR.free 1; have yr2 : _ = some (Value.int .i64 0) := YR.cell 2; have yf2 := YR.free 2; have yr3 : _ = some (Value.int .i64 0) := YR.cell 3; have yf3 := YR.free 3
  clear bd h
  go_region
  go_wp2_with fail
  have VR := (((ZR.put 0 (.int .i64 k)).put 1 (.int .i64 (a : Int))).put 2 (.int .i64 (b : Int))).put 3 (.int .i64 c)
  have p0 : _ = some (Value.int .i64 k) := VR.cell 0; have p1 : _ = some (Value.int .i64 (a : Int)) := VR.cell 1; have p2 : _ = some (Value.int .i64 (b : Int)) := VR.cell 2; have p3 : _ = some (Value.int .i64 c) := VR.cell 3
  refine bodyPost_ret (v := .tuple #[.agg #[.int .i64 k, .int .i64 (a : Int), .int .i64 (b : Int), .int .i64 c], .int .i64 (b : Int)]) (by simp [results, Try.results114, go_sem, p0, p1, p2, p3]) rfl ⟨rfl, ((((BW.setCell (p := ⟨s1, 0, none⟩) hle (.int .i64 k)).setCell (p := ⟨s1, 1, none⟩) hle (.int .i64 (a : Int))).setCell (p := ⟨s1, 2, none⟩) hle (.int .i64 (b : Int))).setCell (p := ⟨s1, 3, none⟩) hle (.int .i64 c)).drew⟩
set_option maxHeartbeats 4000000 in
theorem andOr0_3 {w : World} {p : Nat} {M : List Nd} {S : List Int} (h : Fr w p M S) (k c q : Int) (a b : Nat) (ha : a < M.length) (hb : b < M.length) (c0 : isC M (a : Int) 0 = false) (c1 : isC M (b : Int) 0 = false) (c2 : isC M (a : Int) 1 = false) (c3 : isC M (b : Int) 1 = true) : Calls Try.prog 114 #[.pointer (some ⟨p, 0, none⟩), .agg #[.int .i64 k, .int .i64 (a : Int), .int .i64 (b : Int), .int .i64 c], .int .i64 q, .int .i64 0] w fun e w' => e = .returned (.tuple #[.agg #[.int .i64 k, .int .i64 (a : Int), .int .i64 (b : Int), .int .i64 c], .int .i64 (a : Int)]) ∧ Below w.heap.size w w' := by
  go_enter Try.func114, Try.ntmps114
  go_upto_region 1 with fail
  obtain ⟨w1, e1⟩ : ∃ w', (w.alloc (.cells #[.int .i64 k, .int .i64 (a : Int), .int .i64 (b : Int), .int .i64 c] 43)).alloc (.cells #[.int .i64 0, .int .i64 0, .int .i64 0, .int .i64 0] 43) = w' := ⟨_, rfl⟩
  have z0 : Bx w1 w.heap.size [.int .i64 k, .int .i64 (a : Int), .int .i64 (b : Int), .int .i64 c] := by
    rw [← e1]
    exact (Bx.made_k w rfl #[.int .i64 k, .int .i64 (a : Int), .int .i64 (b : Int), .int .i64 c] 43).on (below_lit _ _)
  have ZR : Own w1 (w.heap.size + 1) 43 [.int .i64 0, .int .i64 0, .int .i64 0, .int .i64 0] := by
    rw [← e1, ← size_lit w (.cells #[.int .i64 k, .int .i64 (a : Int), .int .i64 (b : Int), .int .i64 c] 43) rfl]
    exact Own.made _ 43 [.int .i64 0, .int .i64 0, .int .i64 0, .int .i64 0]
  have BW : Below w.heap.size w w1 := by rw [← e1]; exact below2 _ _ _
  replace h := h.on BW
  obtain ⟨s1, hs1⟩ : ∃ s1, w.heap.size + 1 = s1 := ⟨_, rfl⟩
  have hle : w.heap.size ≤ s1 := by omega
  have hne : w.heap.size ≠ s1 := by omega
  rw [e1]
  clear e1
  rw [hs1] at ZR ⊢
  have z0c0 := z0.2 0 _ rfl; have z0c1 := z0.2 1 _ rfl; have z0c2 := z0.2 2 _ rfl; have z0c3 := z0.2 3 _ rfl; have zr0 : _ = some (Value.int .i64 0) := ZR.cell 0; have zf0 := ZR.free 0; have zr1 : _ = some (Value.int .i64 0) := ZR.cell 1; have zf1 := ZR.free 1; have zr2 : _ = some (Value.int .i64 0) := ZR.cell 2; have zf2 := ZR.free 2; have zr3 : _ = some (Value.int .i64 0) := ZR.cell 3; have zf3 := ZR.free 3
  go_wp2_with (first | (go_at_call 126; (first | with_reducible refine (isConst_as h a ha 0 false c0).mono ?_ | with_reducible refine (isConst_as h b hb 0 false c1).mono ?_ | with_reducible refine (isConst_as h a ha 1 false c2).mono ?_ | with_reducible refine (isConst_as h b hb 1 true c3).mono ?_); (rintro en w2 ⟨rfl, b⟩; clear z0c0 z0c1 z0c2 z0c3 zr0 zr1 zr2 zr3 zf0 zf1 zf2 zf3; replace h := h.on b; replace z0 := z0.on b; replace ZR := ZR.below b ZR.lt; replace BW := Below.step BW b; clear b; have z0c0 := z0.2 0 _ rfl; have z0c1 := z0.2 1 _ rfl; have z0c2 := z0.2 2 _ rfl; have z0c3 := z0.2 3 _ rfl; have zr0 : _ = some (Value.int .i64 0) := ZR.cell 0; have zf0 := ZR.free 0; have zr1 : _ = some (Value.int .i64 0) := ZR.cell 1; have zf1 := ZR.free 1; have zr2 : _ = some (Value.int .i64 0) := ZR.cell 2; have zf2 := ZR.free 2; have zr3 : _ = some (Value.int .i64 0) := ZR.cell 3; have zf3 := ZR.free 3)))
  have bd : Below w2.heap.size w2 w2.drew := (Below.refl _ _).drew
  have y0c0 := (z0.on bd).2 0 _ rfl; have y0c1 := (z0.on bd).2 1 _ rfl; have y0c2 := (z0.on bd).2 2 _ rfl; have y0c3 := (z0.on bd).2 3 _ rfl
  have YR := ZR.below bd ZR.lt
  have yr0 : _ = some (Value.int .i64 0) := YR.cell 0; have yf0 := YR.free 0; have yr1 : _ = some (Value.int .i64 0) := YR.cell 1; have yf1 := YR.free 1; have yr2 : _ = some (Value.int .i64 0) := YR.cell 2; have yf2 := YR.free 2; have yr3 : _ = some (Value.int .i64 0) := YR.cell 3; have yf3 := YR.free 3
  clear bd h
  go_region
  go_wp2_with fail
  have VR := (((ZR.put 0 (.int .i64 k)).put 1 (.int .i64 (a : Int))).put 2 (.int .i64 (b : Int))).put 3 (.int .i64 c)
  have p0 : _ = some (Value.int .i64 k) := VR.cell 0; have p1 : _ = some (Value.int .i64 (a : Int)) := VR.cell 1; have p2 : _ = some (Value.int .i64 (b : Int)) := VR.cell 2; have p3 : _ = some (Value.int .i64 c) := VR.cell 3
  refine bodyPost_ret (v := .tuple #[.agg #[.int .i64 k, .int .i64 (a : Int), .int .i64 (b : Int), .int .i64 c], .int .i64 (a : Int)]) (by simp [results, Try.results114, go_sem, p0, p1, p2, p3]) rfl ⟨rfl, ((((BW.setCell (p := ⟨s1, 0, none⟩) hle (.int .i64 k)).setCell (p := ⟨s1, 1, none⟩) hle (.int .i64 (a : Int))).setCell (p := ⟨s1, 2, none⟩) hle (.int .i64 (b : Int))).setCell (p := ⟨s1, 3, none⟩) hle (.int .i64 c)).drew⟩
set_option maxHeartbeats 4000000 in
theorem andOr0_4 {w : World} {p : Nat} {M : List Nd} {S : List Int} (h : Fr w p M S) (k c q : Int) (a b : Nat) (ha : a < M.length) (hb : b < M.length) (c0 : isC M (a : Int) 0 = false) (c1 : isC M (b : Int) 0 = false) (c2 : isC M (a : Int) 1 = false) (c3 : isC M (b : Int) 1 = false) (c4 : ((a : Int) == (b : Int)) = true) : Calls Try.prog 114 #[.pointer (some ⟨p, 0, none⟩), .agg #[.int .i64 k, .int .i64 (a : Int), .int .i64 (b : Int), .int .i64 c], .int .i64 q, .int .i64 0] w fun e w' => e = .returned (.tuple #[.agg #[.int .i64 k, .int .i64 (a : Int), .int .i64 (b : Int), .int .i64 c], .int .i64 (a : Int)]) ∧ Below w.heap.size w w' := by
  go_enter Try.func114, Try.ntmps114
  go_upto_region 1 with fail
  obtain ⟨w1, e1⟩ : ∃ w', (w.alloc (.cells #[.int .i64 k, .int .i64 (a : Int), .int .i64 (b : Int), .int .i64 c] 43)).alloc (.cells #[.int .i64 0, .int .i64 0, .int .i64 0, .int .i64 0] 43) = w' := ⟨_, rfl⟩
  have z0 : Bx w1 w.heap.size [.int .i64 k, .int .i64 (a : Int), .int .i64 (b : Int), .int .i64 c] := by
    rw [← e1]
    exact (Bx.made_k w rfl #[.int .i64 k, .int .i64 (a : Int), .int .i64 (b : Int), .int .i64 c] 43).on (below_lit _ _)
  have ZR : Own w1 (w.heap.size + 1) 43 [.int .i64 0, .int .i64 0, .int .i64 0, .int .i64 0] := by
    rw [← e1, ← size_lit w (.cells #[.int .i64 k, .int .i64 (a : Int), .int .i64 (b : Int), .int .i64 c] 43) rfl]
    exact Own.made _ 43 [.int .i64 0, .int .i64 0, .int .i64 0, .int .i64 0]
  have BW : Below w.heap.size w w1 := by rw [← e1]; exact below2 _ _ _
  replace h := h.on BW
  obtain ⟨s1, hs1⟩ : ∃ s1, w.heap.size + 1 = s1 := ⟨_, rfl⟩
  have hle : w.heap.size ≤ s1 := by omega
  have hne : w.heap.size ≠ s1 := by omega
  rw [e1]
  clear e1
  rw [hs1] at ZR ⊢
  have z0c0 := z0.2 0 _ rfl; have z0c1 := z0.2 1 _ rfl; have z0c2 := z0.2 2 _ rfl; have z0c3 := z0.2 3 _ rfl; have zr0 : _ = some (Value.int .i64 0) := ZR.cell 0; have zf0 := ZR.free 0; have zr1 : _ = some (Value.int .i64 0) := ZR.cell 1; have zf1 := ZR.free 1; have zr2 : _ = some (Value.int .i64 0) := ZR.cell 2; have zf2 := ZR.free 2; have zr3 : _ = some (Value.int .i64 0) := ZR.cell 3; have zf3 := ZR.free 3
  go_wp2_with (first | (go_at_call 126; (first | with_reducible refine (isConst_as h a ha 0 false c0).mono ?_ | with_reducible refine (isConst_as h b hb 0 false c1).mono ?_ | with_reducible refine (isConst_as h a ha 1 false c2).mono ?_ | with_reducible refine (isConst_as h b hb 1 false c3).mono ?_); (rintro en w2 ⟨rfl, b⟩; clear z0c0 z0c1 z0c2 z0c3 zr0 zr1 zr2 zr3 zf0 zf1 zf2 zf3; replace h := h.on b; replace z0 := z0.on b; replace ZR := ZR.below b ZR.lt; replace BW := Below.step BW b; clear b; have z0c0 := z0.2 0 _ rfl; have z0c1 := z0.2 1 _ rfl; have z0c2 := z0.2 2 _ rfl; have z0c3 := z0.2 3 _ rfl; have zr0 : _ = some (Value.int .i64 0) := ZR.cell 0; have zf0 := ZR.free 0; have zr1 : _ = some (Value.int .i64 0) := ZR.cell 1; have zf1 := ZR.free 1; have zr2 : _ = some (Value.int .i64 0) := ZR.cell 2; have zf2 := ZR.free 2; have zr3 : _ = some (Value.int .i64 0) := ZR.cell 3; have zf3 := ZR.free 3)))
  have bd : Below w2.heap.size w2 w2.drew := (Below.refl _ _).drew
  have y0c0 := (z0.on bd).2 0 _ rfl; have y0c1 := (z0.on bd).2 1 _ rfl; have y0c2 := (z0.on bd).2 2 _ rfl; have y0c3 := (z0.on bd).2 3 _ rfl
  have YR := ZR.below bd ZR.lt
  have yr0 : _ = some (Value.int .i64 0) := YR.cell 0; have yf0 := YR.free 0; have yr1 : _ = some (Value.int .i64 0) := YR.cell 1; have yf1 := YR.free 1; have yr2 : _ = some (Value.int .i64 0) := YR.cell 2; have yf2 := YR.free 2; have yr3 : _ = some (Value.int .i64 0) := YR.cell 3; have yf3 := YR.free 3
  clear bd h
  go_region
  go_wp2_with fail
  have VR := (((ZR.put 0 (.int .i64 k)).put 1 (.int .i64 (a : Int))).put 2 (.int .i64 (b : Int))).put 3 (.int .i64 c)
  have p0 : _ = some (Value.int .i64 k) := VR.cell 0; have p1 : _ = some (Value.int .i64 (a : Int)) := VR.cell 1; have p2 : _ = some (Value.int .i64 (b : Int)) := VR.cell 2; have p3 : _ = some (Value.int .i64 c) := VR.cell 3
  refine bodyPost_ret (v := .tuple #[.agg #[.int .i64 k, .int .i64 (a : Int), .int .i64 (b : Int), .int .i64 c], .int .i64 (a : Int)]) (by simp [results, Try.results114, go_sem, p0, p1, p2, p3]) rfl ⟨rfl, ((((BW.setCell (p := ⟨s1, 0, none⟩) hle (.int .i64 k)).setCell (p := ⟨s1, 1, none⟩) hle (.int .i64 (a : Int))).setCell (p := ⟨s1, 2, none⟩) hle (.int .i64 (b : Int))).setCell (p := ⟨s1, 3, none⟩) hle (.int .i64 c)).drew⟩
set_option maxHeartbeats 4000000 in
theorem andOr0_5 {w : World} {p : Nat} {M : List Nd} {S : List Int} (h : Fr w p M S) (k c q : Int) (a b : Nat) (ha : a < M.length) (hb : b < M.length) (c0 : isC M (a : Int) 0 = false) (c1 : isC M (b : Int) 0 = false) (c2 : isC M (a : Int) 1 = false) (c3 : isC M (b : Int) 1 = false) (c4 : ((a : Int) == (b : Int)) = false) (c5 : areT M (a : Int) (b : Int) = true) : Calls Try.prog 114 #[.pointer (some ⟨p, 0, none⟩), .agg #[.int .i64 k, .int .i64 (a : Int), .int .i64 (b : Int), .int .i64 c], .int .i64 q, .int .i64 0] w fun e w' => e = .returned (.tuple #[.agg #[.int .i64 0, .int .i64 0, .int .i64 0, .int .i64 0], .int .i64 q]) ∧ Below w.heap.size w w' := by
  go_enter Try.func114, Try.ntmps114
  go_upto_region 1 with fail
  obtain ⟨w1, e1⟩ : ∃ w', (w.alloc (.cells #[.int .i64 k, .int .i64 (a : Int), .int .i64 (b : Int), .int .i64 c] 43)).alloc (.cells #[.int .i64 0, .int .i64 0, .int .i64 0, .int .i64 0] 43) = w' := ⟨_, rfl⟩
  have z0 : Bx w1 w.heap.size [.int .i64 k, .int .i64 (a : Int), .int .i64 (b : Int), .int .i64 c] := by
    rw [← e1]
    exact (Bx.made_k w rfl #[.int .i64 k, .int .i64 (a : Int), .int .i64 (b : Int), .int .i64 c] 43).on (below_lit _ _)
  have ZR : Own w1 (w.heap.size + 1) 43 [.int .i64 0, .int .i64 0, .int .i64 0, .int .i64 0] := by
    rw [← e1, ← size_lit w (.cells #[.int .i64 k, .int .i64 (a : Int), .int .i64 (b : Int), .int .i64 c] 43) rfl]
    exact Own.made _ 43 [.int .i64 0, .int .i64 0, .int .i64 0, .int .i64 0]
  have BW : Below w.heap.size w w1 := by rw [← e1]; exact below2 _ _ _
  replace h := h.on BW
  obtain ⟨s1, hs1⟩ : ∃ s1, w.heap.size + 1 = s1 := ⟨_, rfl⟩
  have hle : w.heap.size ≤ s1 := by omega
  have hne : w.heap.size ≠ s1 := by omega
  rw [e1]
  clear e1
  rw [hs1] at ZR ⊢
  have z0c0 := z0.2 0 _ rfl; have z0c1 := z0.2 1 _ rfl; have z0c2 := z0.2 2 _ rfl; have z0c3 := z0.2 3 _ rfl; have zr0 : _ = some (Value.int .i64 0) := ZR.cell 0; have zf0 := ZR.free 0; have zr1 : _ = some (Value.int .i64 0) := ZR.cell 1; have zf1 := ZR.free 1; have zr2 : _ = some (Value.int .i64 0) := ZR.cell 2; have zf2 := ZR.free 2; have zr3 : _ = some (Value.int .i64 0) := ZR.cell 3; have zf3 := ZR.free 3
  go_wp2_with (first | (go_at_call 126; (first | with_reducible refine (isConst_as h a ha 0 false c0).mono ?_ | with_reducible refine (isConst_as h b hb 0 false c1).mono ?_ | with_reducible refine (isConst_as h a ha 1 false c2).mono ?_ | with_reducible refine (isConst_as h b hb 1 false c3).mono ?_); (rintro en w2 ⟨rfl, b⟩; clear z0c0 z0c1 z0c2 z0c3 zr0 zr1 zr2 zr3 zf0 zf1 zf2 zf3; replace h := h.on b; replace z0 := z0.on b; replace ZR := ZR.below b ZR.lt; replace BW := Below.step BW b; clear b; have z0c0 := z0.2 0 _ rfl; have z0c1 := z0.2 1 _ rfl; have z0c2 := z0.2 2 _ rfl; have z0c3 := z0.2 3 _ rfl; have zr0 : _ = some (Value.int .i64 0) := ZR.cell 0; have zf0 := ZR.free 0; have zr1 : _ = some (Value.int .i64 0) := ZR.cell 1; have zf1 := ZR.free 1; have zr2 : _ = some (Value.int .i64 0) := ZR.cell 2; have zf2 := ZR.free 2; have zr3 : _ = some (Value.int .i64 0) := ZR.cell 3; have zf3 := ZR.free 3)) | (go_at_call 127; (first | with_reducible refine (areTurned_as h a b ha hb true c5).mono ?_); (rintro en w2 ⟨rfl, b⟩; clear z0c0 z0c1 z0c2 z0c3 zr0 zr1 zr2 zr3 zf0 zf1 zf2 zf3; replace h := h.on b; replace z0 := z0.on b; replace ZR := ZR.below b ZR.lt; replace BW := Below.step BW b; clear b; have z0c0 := z0.2 0 _ rfl; have z0c1 := z0.2 1 _ rfl; have z0c2 := z0.2 2 _ rfl; have z0c3 := z0.2 3 _ rfl; have zr0 : _ = some (Value.int .i64 0) := ZR.cell 0; have zf0 := ZR.free 0; have zr1 : _ = some (Value.int .i64 0) := ZR.cell 1; have zf1 := ZR.free 1; have zr2 : _ = some (Value.int .i64 0) := ZR.cell 2; have zf2 := ZR.free 2; have zr3 : _ = some (Value.int .i64 0) := ZR.cell 3; have zf3 := ZR.free 3)) | (go_at_call 125; (first | with_reducible refine (constant_as 0 _).mono ?_); (rintro en w2 ⟨rfl, b⟩; clear z0c0 z0c1 z0c2 z0c3 zr0 zr1 zr2 zr3 zf0 zf1 zf2 zf3; replace h := h.on b; replace z0 := z0.on b; replace ZR := ZR.below b ZR.lt; replace BW := Below.step BW b; clear b; have z0c0 := z0.2 0 _ rfl; have z0c1 := z0.2 1 _ rfl; have z0c2 := z0.2 2 _ rfl; have z0c3 := z0.2 3 _ rfl; have zr0 : _ = some (Value.int .i64 0) := ZR.cell 0; have zf0 := ZR.free 0; have zr1 : _ = some (Value.int .i64 0) := ZR.cell 1; have zf1 := ZR.free 1; have zr2 : _ = some (Value.int .i64 0) := ZR.cell 2; have zf2 := ZR.free 2; have zr3 : _ = some (Value.int .i64 0) := ZR.cell 3; have zf3 := ZR.free 3)))
  have VR := (((ZR.put 0 (.int .i64 0)).put 1 (.int .i64 0)).put 2 (.int .i64 0)).put 3 (.int .i64 0)
  have p0 : _ = some (Value.int .i64 0) := VR.cell 0; have p1 : _ = some (Value.int .i64 0) := VR.cell 1; have p2 : _ = some (Value.int .i64 0) := VR.cell 2; have p3 : _ = some (Value.int .i64 0) := VR.cell 3
  refine bodyPost_ret (v := .tuple #[.agg #[.int .i64 0, .int .i64 0, .int .i64 0, .int .i64 0], .int .i64 q]) (by simp [results, Try.results114, go_sem, p0, p1, p2, p3]) rfl ⟨rfl, ((((BW.setCell (p := ⟨s1, 0, none⟩) hle (.int .i64 0)).setCell (p := ⟨s1, 1, none⟩) hle (.int .i64 0)).setCell (p := ⟨s1, 2, none⟩) hle (.int .i64 0)).setCell (p := ⟨s1, 3, none⟩) hle (.int .i64 0))⟩
set_option maxHeartbeats 4000000 in
theorem andOr0_6 {w : World} {p : Nat} {M : List Nd} {S : List Int} (h : Fr w p M S) (k c q : Int) (a b : Nat) (ha : a < M.length) (hb : b < M.length) (c0 : isC M (a : Int) 0 = false) (c1 : isC M (b : Int) 0 = false) (c2 : isC M (a : Int) 1 = false) (c3 : isC M (b : Int) 1 = false) (c4 : ((a : Int) == (b : Int)) = false) (c5 : areT M (a : Int) (b : Int) = false) : Calls Try.prog 114 #[.pointer (some ⟨p, 0, none⟩), .agg #[.int .i64 k, .int .i64 (a : Int), .int .i64 (b : Int), .int .i64 c], .int .i64 q, .int .i64 0] w fun e w' => e = .returned (.tuple #[.agg #[.int .i64 k, .int .i64 (a : Int), .int .i64 (b : Int), .int .i64 c], .int .i64 q]) ∧ Below w.heap.size w w' := by
  go_enter Try.func114, Try.ntmps114
  go_upto_region 1 with fail
  obtain ⟨w1, e1⟩ : ∃ w', (w.alloc (.cells #[.int .i64 k, .int .i64 (a : Int), .int .i64 (b : Int), .int .i64 c] 43)).alloc (.cells #[.int .i64 0, .int .i64 0, .int .i64 0, .int .i64 0] 43) = w' := ⟨_, rfl⟩
  have z0 : Bx w1 w.heap.size [.int .i64 k, .int .i64 (a : Int), .int .i64 (b : Int), .int .i64 c] := by
    rw [← e1]
    exact (Bx.made_k w rfl #[.int .i64 k, .int .i64 (a : Int), .int .i64 (b : Int), .int .i64 c] 43).on (below_lit _ _)
  have ZR : Own w1 (w.heap.size + 1) 43 [.int .i64 0, .int .i64 0, .int .i64 0, .int .i64 0] := by
    rw [← e1, ← size_lit w (.cells #[.int .i64 k, .int .i64 (a : Int), .int .i64 (b : Int), .int .i64 c] 43) rfl]
    exact Own.made _ 43 [.int .i64 0, .int .i64 0, .int .i64 0, .int .i64 0]
  have BW : Below w.heap.size w w1 := by rw [← e1]; exact below2 _ _ _
  replace h := h.on BW
  obtain ⟨s1, hs1⟩ : ∃ s1, w.heap.size + 1 = s1 := ⟨_, rfl⟩
  have hle : w.heap.size ≤ s1 := by omega
  have hne : w.heap.size ≠ s1 := by omega
  rw [e1]
  clear e1
  rw [hs1] at ZR ⊢
  have z0c0 := z0.2 0 _ rfl; have z0c1 := z0.2 1 _ rfl; have z0c2 := z0.2 2 _ rfl; have z0c3 := z0.2 3 _ rfl; have zr0 : _ = some (Value.int .i64 0) := ZR.cell 0; have zf0 := ZR.free 0; have zr1 : _ = some (Value.int .i64 0) := ZR.cell 1; have zf1 := ZR.free 1; have zr2 : _ = some (Value.int .i64 0) := ZR.cell 2; have zf2 := ZR.free 2; have zr3 : _ = some (Value.int .i64 0) := ZR.cell 3; have zf3 := ZR.free 3
  go_wp2_with (first | (go_at_call 126; (first | with_reducible refine (isConst_as h a ha 0 false c0).mono ?_ | with_reducible refine (isConst_as h b hb 0 false c1).mono ?_ | with_reducible refine (isConst_as h a ha 1 false c2).mono ?_ | with_reducible refine (isConst_as h b hb 1 false c3).mono ?_); (rintro en w2 ⟨rfl, b⟩; clear z0c0 z0c1 z0c2 z0c3 zr0 zr1 zr2 zr3 zf0 zf1 zf2 zf3; replace h := h.on b; replace z0 := z0.on b; replace ZR := ZR.below b ZR.lt; replace BW := Below.step BW b; clear b; have z0c0 := z0.2 0 _ rfl; have z0c1 := z0.2 1 _ rfl; have z0c2 := z0.2 2 _ rfl; have z0c3 := z0.2 3 _ rfl; have zr0 : _ = some (Value.int .i64 0) := ZR.cell 0; have zf0 := ZR.free 0; have zr1 : _ = some (Value.int .i64 0) := ZR.cell 1; have zf1 := ZR.free 1; have zr2 : _ = some (Value.int .i64 0) := ZR.cell 2; have zf2 := ZR.free 2; have zr3 : _ = some (Value.int .i64 0) := ZR.cell 3; have zf3 := ZR.free 3)) | (go_at_call 127; (first | with_reducible refine (areTurned_as h a b ha hb false c5).mono ?_); (rintro en w2 ⟨rfl, b⟩; clear z0c0 z0c1 z0c2 z0c3 zr0 zr1 zr2 zr3 zf0 zf1 zf2 zf3; replace h := h.on b; replace z0 := z0.on b; replace ZR := ZR.below b ZR.lt; replace BW := Below.step BW b; clear b; have z0c0 := z0.2 0 _ rfl; have z0c1 := z0.2 1 _ rfl; have z0c2 := z0.2 2 _ rfl; have z0c3 := z0.2 3 _ rfl; have zr0 : _ = some (Value.int .i64 0) := ZR.cell 0; have zf0 := ZR.free 0; have zr1 : _ = some (Value.int .i64 0) := ZR.cell 1; have zf1 := ZR.free 1; have zr2 : _ = some (Value.int .i64 0) := ZR.cell 2; have zf2 := ZR.free 2; have zr3 : _ = some (Value.int .i64 0) := ZR.cell 3; have zf3 := ZR.free 3)))
  have VR := (((ZR.put 0 (.int .i64 k)).put 1 (.int .i64 (a : Int))).put 2 (.int .i64 (b : Int))).put 3 (.int .i64 c)
  have p0 : _ = some (Value.int .i64 k) := VR.cell 0; have p1 : _ = some (Value.int .i64 (a : Int)) := VR.cell 1; have p2 : _ = some (Value.int .i64 (b : Int)) := VR.cell 2; have p3 : _ = some (Value.int .i64 c) := VR.cell 3
  refine bodyPost_ret (v := .tuple #[.agg #[.int .i64 k, .int .i64 (a : Int), .int .i64 (b : Int), .int .i64 c], .int .i64 q]) (by simp [results, Try.results114, go_sem, p0, p1, p2, p3]) rfl ⟨rfl, ((((BW.setCell (p := ⟨s1, 0, none⟩) hle (.int .i64 k)).setCell (p := ⟨s1, 1, none⟩) hle (.int .i64 (a : Int))).setCell (p := ⟨s1, 2, none⟩) hle (.int .i64 (b : Int))).setCell (p := ⟨s1, 3, none⟩) hle (.int .i64 c))⟩
theorem foldandOr0_as {w : World} {p : Nat} {M : List Nd} {S : List Int} (h : Fr w p M S) (k c q : Int) (a b : Nat) (ha : a < M.length) (hb : b < M.length) : Calls Try.prog 114 #[.pointer (some ⟨p, 0, none⟩), .agg #[.int .i64 k, .int .i64 (a : Int), .int .i64 (b : Int), .int .i64 c], .int .i64 q, .int .i64 0] w fun e w' => e = .returned (.tuple #[ndA (aoL M ⟨k, (a : Int), (b : Int), c⟩ q 0).1, .int .i64 (aoL M ⟨k, (a : Int), (b : Int), c⟩ q 0).2]) ∧ Below w.heap.size w w' := by
  cases c0 : isC M (a : Int) 0
  · cases c1 : isC M (b : Int) 0
    · cases c2 : isC M (a : Int) 1
      · cases c3 : isC M (b : Int) 1
        · cases c4 : ((a : Int) == (b : Int))
          · cases c5 : areT M (a : Int) (b : Int)
            · rw [show aoL M ⟨k, (a : Int), (b : Int), c⟩ q 0 = (⟨k, (a : Int), (b : Int), c⟩, q) from by unfold aoL; simp [*] <;> rfl]
              exact andOr0_6 h k c q a b ha hb c0 c1 c2 c3 c4 c5
            · rw [show aoL M ⟨k, (a : Int), (b : Int), c⟩ q 0 = (⟨0, 0, 0, 0⟩, q) from by unfold aoL; simp [*] <;> rfl]
              exact andOr0_5 h k c q a b ha hb c0 c1 c2 c3 c4 c5
          · rw [show aoL M ⟨k, (a : Int), (b : Int), c⟩ q 0 = (⟨k, (a : Int), (b : Int), c⟩, (a : Int)) from by unfold aoL; simp [*] <;> rfl]
            exact andOr0_4 h k c q a b ha hb c0 c1 c2 c3 c4
        · rw [show aoL M ⟨k, (a : Int), (b : Int), c⟩ q 0 = (⟨k, (a : Int), (b : Int), c⟩, (a : Int)) from by unfold aoL; simp [*] <;> rfl]
          exact andOr0_3 h k c q a b ha hb c0 c1 c2 c3
      · rw [show aoL M ⟨k, (a : Int), (b : Int), c⟩ q 0 = (⟨k, (a : Int), (b : Int), c⟩, (b : Int)) from by unfold aoL; simp [*] <;> rfl]
        exact andOr0_2 h k c q a b ha hb c0 c1 c2
    · rw [show aoL M ⟨k, (a : Int), (b : Int), c⟩ q 0 = (⟨0, 0, 0, 0⟩, q) from by unfold aoL; simp [*] <;> rfl]
      exact andOr0_1 h k c q a b ha hb c0 c1
  · rw [show aoL M ⟨k, (a : Int), (b : Int), c⟩ q 0 = (⟨0, 0, 0, 0⟩, q) from by unfold aoL; simp [*] <;> rfl]
    exact andOr0_0 h k c q a b ha hb c0
set_option maxHeartbeats 4000000 in
theorem andOr1_0 {w : World} {p : Nat} {M : List Nd} {S : List Int} (h : Fr w p M S) (k c q : Int) (a b : Nat) (ha : a < M.length) (hb : b < M.length) (c0 : isC M (a : Int) 1 = true) : Calls Try.prog 114 #[.pointer (some ⟨p, 0, none⟩), .agg #[.int .i64 k, .int .i64 (a : Int), .int .i64 (b : Int), .int .i64 c], .int .i64 q, .int .i64 1] w fun e w' => e = .returned (.tuple #[.agg #[.int .i64 0, .int .i64 1, .int .i64 0, .int .i64 0], .int .i64 q]) ∧ Below w.heap.size w w' := by
  go_enter Try.func114, Try.ntmps114
  go_upto_region 1 with fail
  obtain ⟨w1, e1⟩ : ∃ w', (w.alloc (.cells #[.int .i64 k, .int .i64 (a : Int), .int .i64 (b : Int), .int .i64 c] 43)).alloc (.cells #[.int .i64 0, .int .i64 0, .int .i64 0, .int .i64 0] 43) = w' := ⟨_, rfl⟩
  have z0 : Bx w1 w.heap.size [.int .i64 k, .int .i64 (a : Int), .int .i64 (b : Int), .int .i64 c] := by
    rw [← e1]
    exact (Bx.made_k w rfl #[.int .i64 k, .int .i64 (a : Int), .int .i64 (b : Int), .int .i64 c] 43).on (below_lit _ _)
  have ZR : Own w1 (w.heap.size + 1) 43 [.int .i64 0, .int .i64 0, .int .i64 0, .int .i64 0] := by
    rw [← e1, ← size_lit w (.cells #[.int .i64 k, .int .i64 (a : Int), .int .i64 (b : Int), .int .i64 c] 43) rfl]
    exact Own.made _ 43 [.int .i64 0, .int .i64 0, .int .i64 0, .int .i64 0]
  have BW : Below w.heap.size w w1 := by rw [← e1]; exact below2 _ _ _
  replace h := h.on BW
  obtain ⟨s1, hs1⟩ : ∃ s1, w.heap.size + 1 = s1 := ⟨_, rfl⟩
  have hle : w.heap.size ≤ s1 := by omega
  have hne : w.heap.size ≠ s1 := by omega
  rw [e1]
  clear e1
  rw [hs1] at ZR ⊢
  have z0c0 := z0.2 0 _ rfl; have z0c1 := z0.2 1 _ rfl; have z0c2 := z0.2 2 _ rfl; have z0c3 := z0.2 3 _ rfl; have zr0 : _ = some (Value.int .i64 0) := ZR.cell 0; have zf0 := ZR.free 0; have zr1 : _ = some (Value.int .i64 0) := ZR.cell 1; have zf1 := ZR.free 1; have zr2 : _ = some (Value.int .i64 0) := ZR.cell 2; have zf2 := ZR.free 2; have zr3 : _ = some (Value.int .i64 0) := ZR.cell 3; have zf3 := ZR.free 3
  go_wp2_with (first | (go_at_call 126; (first | with_reducible refine (isConst_as h a ha 1 true c0).mono ?_); (rintro en w2 ⟨rfl, b⟩; clear z0c0 z0c1 z0c2 z0c3 zr0 zr1 zr2 zr3 zf0 zf1 zf2 zf3; replace h := h.on b; replace z0 := z0.on b; replace ZR := ZR.below b ZR.lt; replace BW := Below.step BW b; clear b; have z0c0 := z0.2 0 _ rfl; have z0c1 := z0.2 1 _ rfl; have z0c2 := z0.2 2 _ rfl; have z0c3 := z0.2 3 _ rfl; have zr0 : _ = some (Value.int .i64 0) := ZR.cell 0; have zf0 := ZR.free 0; have zr1 : _ = some (Value.int .i64 0) := ZR.cell 1; have zf1 := ZR.free 1; have zr2 : _ = some (Value.int .i64 0) := ZR.cell 2; have zf2 := ZR.free 2; have zr3 : _ = some (Value.int .i64 0) := ZR.cell 3; have zf3 := ZR.free 3)) | (go_at_call 125; (first | with_reducible refine (constant_as 1 _).mono ?_); (rintro en w2 ⟨rfl, b⟩; clear z0c0 z0c1 z0c2 z0c3 zr0 zr1 zr2 zr3 zf0 zf1 zf2 zf3; replace h := h.on b; replace z0 := z0.on b; replace ZR := ZR.below b ZR.lt; replace BW := Below.step BW b; clear b; have z0c0 := z0.2 0 _ rfl; have z0c1 := z0.2 1 _ rfl; have z0c2 := z0.2 2 _ rfl; have z0c3 := z0.2 3 _ rfl; have zr0 : _ = some (Value.int .i64 0) := ZR.cell 0; have zf0 := ZR.free 0; have zr1 : _ = some (Value.int .i64 0) := ZR.cell 1; have zf1 := ZR.free 1; have zr2 : _ = some (Value.int .i64 0) := ZR.cell 2; have zf2 := ZR.free 2; have zr3 : _ = some (Value.int .i64 0) := ZR.cell 3; have zf3 := ZR.free 3)))
  have VR := (((ZR.put 0 (.int .i64 0)).put 1 (.int .i64 1)).put 2 (.int .i64 0)).put 3 (.int .i64 0)
  have p0 : _ = some (Value.int .i64 0) := VR.cell 0; have p1 : _ = some (Value.int .i64 1) := VR.cell 1; have p2 : _ = some (Value.int .i64 0) := VR.cell 2; have p3 : _ = some (Value.int .i64 0) := VR.cell 3
  refine bodyPost_ret (v := .tuple #[.agg #[.int .i64 0, .int .i64 1, .int .i64 0, .int .i64 0], .int .i64 q]) (by simp [results, Try.results114, go_sem, p0, p1, p2, p3]) rfl ⟨rfl, ((((BW.setCell (p := ⟨s1, 0, none⟩) hle (.int .i64 0)).setCell (p := ⟨s1, 1, none⟩) hle (.int .i64 1)).setCell (p := ⟨s1, 2, none⟩) hle (.int .i64 0)).setCell (p := ⟨s1, 3, none⟩) hle (.int .i64 0))⟩
set_option maxHeartbeats 4000000 in
theorem andOr1_1 {w : World} {p : Nat} {M : List Nd} {S : List Int} (h : Fr w p M S) (k c q : Int) (a b : Nat) (ha : a < M.length) (hb : b < M.length) (c0 : isC M (a : Int) 1 = false) (c1 : isC M (b : Int) 1 = true) : Calls Try.prog 114 #[.pointer (some ⟨p, 0, none⟩), .agg #[.int .i64 k, .int .i64 (a : Int), .int .i64 (b : Int), .int .i64 c], .int .i64 q, .int .i64 1] w fun e w' => e = .returned (.tuple #[.agg #[.int .i64 0, .int .i64 1, .int .i64 0, .int .i64 0], .int .i64 q]) ∧ Below w.heap.size w w' := by
  go_enter Try.func114, Try.ntmps114
  go_upto_region 1 with fail
  obtain ⟨w1, e1⟩ : ∃ w', (w.alloc (.cells #[.int .i64 k, .int .i64 (a : Int), .int .i64 (b : Int), .int .i64 c] 43)).alloc (.cells #[.int .i64 0, .int .i64 0, .int .i64 0, .int .i64 0] 43) = w' := ⟨_, rfl⟩
  have z0 : Bx w1 w.heap.size [.int .i64 k, .int .i64 (a : Int), .int .i64 (b : Int), .int .i64 c] := by
    rw [← e1]
    exact (Bx.made_k w rfl #[.int .i64 k, .int .i64 (a : Int), .int .i64 (b : Int), .int .i64 c] 43).on (below_lit _ _)
  have ZR : Own w1 (w.heap.size + 1) 43 [.int .i64 0, .int .i64 0, .int .i64 0, .int .i64 0] := by
    rw [← e1, ← size_lit w (.cells #[.int .i64 k, .int .i64 (a : Int), .int .i64 (b : Int), .int .i64 c] 43) rfl]
    exact Own.made _ 43 [.int .i64 0, .int .i64 0, .int .i64 0, .int .i64 0]
  have BW : Below w.heap.size w w1 := by rw [← e1]; exact below2 _ _ _
  replace h := h.on BW
  obtain ⟨s1, hs1⟩ : ∃ s1, w.heap.size + 1 = s1 := ⟨_, rfl⟩
  have hle : w.heap.size ≤ s1 := by omega
  have hne : w.heap.size ≠ s1 := by omega
  rw [e1]
  clear e1
  rw [hs1] at ZR ⊢
  have z0c0 := z0.2 0 _ rfl; have z0c1 := z0.2 1 _ rfl; have z0c2 := z0.2 2 _ rfl; have z0c3 := z0.2 3 _ rfl; have zr0 : _ = some (Value.int .i64 0) := ZR.cell 0; have zf0 := ZR.free 0; have zr1 : _ = some (Value.int .i64 0) := ZR.cell 1; have zf1 := ZR.free 1; have zr2 : _ = some (Value.int .i64 0) := ZR.cell 2; have zf2 := ZR.free 2; have zr3 : _ = some (Value.int .i64 0) := ZR.cell 3; have zf3 := ZR.free 3
  go_wp2_with (first | (go_at_call 126; (first | with_reducible refine (isConst_as h a ha 1 false c0).mono ?_ | with_reducible refine (isConst_as h b hb 1 true c1).mono ?_); (rintro en w2 ⟨rfl, b⟩; clear z0c0 z0c1 z0c2 z0c3 zr0 zr1 zr2 zr3 zf0 zf1 zf2 zf3; replace h := h.on b; replace z0 := z0.on b; replace ZR := ZR.below b ZR.lt; replace BW := Below.step BW b; clear b; have z0c0 := z0.2 0 _ rfl; have z0c1 := z0.2 1 _ rfl; have z0c2 := z0.2 2 _ rfl; have z0c3 := z0.2 3 _ rfl; have zr0 : _ = some (Value.int .i64 0) := ZR.cell 0; have zf0 := ZR.free 0; have zr1 : _ = some (Value.int .i64 0) := ZR.cell 1; have zf1 := ZR.free 1; have zr2 : _ = some (Value.int .i64 0) := ZR.cell 2; have zf2 := ZR.free 2; have zr3 : _ = some (Value.int .i64 0) := ZR.cell 3; have zf3 := ZR.free 3)) | (go_at_call 125; (first | with_reducible refine (constant_as 1 _).mono ?_); (rintro en w2 ⟨rfl, b⟩; clear z0c0 z0c1 z0c2 z0c3 zr0 zr1 zr2 zr3 zf0 zf1 zf2 zf3; replace h := h.on b; replace z0 := z0.on b; replace ZR := ZR.below b ZR.lt; replace BW := Below.step BW b; clear b; have z0c0 := z0.2 0 _ rfl; have z0c1 := z0.2 1 _ rfl; have z0c2 := z0.2 2 _ rfl; have z0c3 := z0.2 3 _ rfl; have zr0 : _ = some (Value.int .i64 0) := ZR.cell 0; have zf0 := ZR.free 0; have zr1 : _ = some (Value.int .i64 0) := ZR.cell 1; have zf1 := ZR.free 1; have zr2 : _ = some (Value.int .i64 0) := ZR.cell 2; have zf2 := ZR.free 2; have zr3 : _ = some (Value.int .i64 0) := ZR.cell 3; have zf3 := ZR.free 3)))
  have VR := (((ZR.put 0 (.int .i64 0)).put 1 (.int .i64 1)).put 2 (.int .i64 0)).put 3 (.int .i64 0)
  have p0 : _ = some (Value.int .i64 0) := VR.cell 0; have p1 : _ = some (Value.int .i64 1) := VR.cell 1; have p2 : _ = some (Value.int .i64 0) := VR.cell 2; have p3 : _ = some (Value.int .i64 0) := VR.cell 3
  refine bodyPost_ret (v := .tuple #[.agg #[.int .i64 0, .int .i64 1, .int .i64 0, .int .i64 0], .int .i64 q]) (by simp [results, Try.results114, go_sem, p0, p1, p2, p3]) rfl ⟨rfl, ((((BW.setCell (p := ⟨s1, 0, none⟩) hle (.int .i64 0)).setCell (p := ⟨s1, 1, none⟩) hle (.int .i64 1)).setCell (p := ⟨s1, 2, none⟩) hle (.int .i64 0)).setCell (p := ⟨s1, 3, none⟩) hle (.int .i64 0))⟩
set_option maxHeartbeats 4000000 in
theorem andOr1_2 {w : World} {p : Nat} {M : List Nd} {S : List Int} (h : Fr w p M S) (k c q : Int) (a b : Nat) (ha : a < M.length) (hb : b < M.length) (c0 : isC M (a : Int) 1 = false) (c1 : isC M (b : Int) 1 = false) (c2 : isC M (a : Int) 0 = true) : Calls Try.prog 114 #[.pointer (some ⟨p, 0, none⟩), .agg #[.int .i64 k, .int .i64 (a : Int), .int .i64 (b : Int), .int .i64 c], .int .i64 q, .int .i64 1] w fun e w' => e = .returned (.tuple #[.agg #[.int .i64 k, .int .i64 (a : Int), .int .i64 (b : Int), .int .i64 c], .int .i64 (b : Int)]) ∧ Below w.heap.size w w' := by
  go_enter Try.func114, Try.ntmps114
  go_upto_region 1 with fail
  obtain ⟨w1, e1⟩ : ∃ w', (w.alloc (.cells #[.int .i64 k, .int .i64 (a : Int), .int .i64 (b : Int), .int .i64 c] 43)).alloc (.cells #[.int .i64 0, .int .i64 0, .int .i64 0, .int .i64 0] 43) = w' := ⟨_, rfl⟩
  have z0 : Bx w1 w.heap.size [.int .i64 k, .int .i64 (a : Int), .int .i64 (b : Int), .int .i64 c] := by
    rw [← e1]
    exact (Bx.made_k w rfl #[.int .i64 k, .int .i64 (a : Int), .int .i64 (b : Int), .int .i64 c] 43).on (below_lit _ _)
  have ZR : Own w1 (w.heap.size + 1) 43 [.int .i64 0, .int .i64 0, .int .i64 0, .int .i64 0] := by
    rw [← e1, ← size_lit w (.cells #[.int .i64 k, .int .i64 (a : Int), .int .i64 (b : Int), .int .i64 c] 43) rfl]
    exact Own.made _ 43 [.int .i64 0, .int .i64 0, .int .i64 0, .int .i64 0]
  have BW : Below w.heap.size w w1 := by rw [← e1]; exact below2 _ _ _
  replace h := h.on BW
  obtain ⟨s1, hs1⟩ : ∃ s1, w.heap.size + 1 = s1 := ⟨_, rfl⟩
  have hle : w.heap.size ≤ s1 := by omega
  have hne : w.heap.size ≠ s1 := by omega
  rw [e1]
  clear e1
  rw [hs1] at ZR ⊢
  have z0c0 := z0.2 0 _ rfl; have z0c1 := z0.2 1 _ rfl; have z0c2 := z0.2 2 _ rfl; have z0c3 := z0.2 3 _ rfl; have zr0 : _ = some (Value.int .i64 0) := ZR.cell 0; have zf0 := ZR.free 0; have zr1 : _ = some (Value.int .i64 0) := ZR.cell 1; have zf1 := ZR.free 1; have zr2 : _ = some (Value.int .i64 0) := ZR.cell 2; have zf2 := ZR.free 2; have zr3 : _ = some (Value.int .i64 0) := ZR.cell 3; have zf3 := ZR.free 3
  go_wp2_with (first | (go_at_call 126; (first | with_reducible refine (isConst_as h a ha 1 false c0).mono ?_ | with_reducible refine (isConst_as h b hb 1 false c1).mono ?_ | with_reducible refine (isConst_as h a ha 0 true c2).mono ?_); (rintro en w2 ⟨rfl, b⟩; clear z0c0 z0c1 z0c2 z0c3 zr0 zr1 zr2 zr3 zf0 zf1 zf2 zf3; replace h := h.on b; replace z0 := z0.on b; replace ZR := ZR.below b ZR.lt; replace BW := Below.step BW b; clear b; have z0c0 := z0.2 0 _ rfl; have z0c1 := z0.2 1 _ rfl; have z0c2 := z0.2 2 _ rfl; have z0c3 := z0.2 3 _ rfl; have zr0 : _ = some (Value.int .i64 0) := ZR.cell 0; have zf0 := ZR.free 0; have zr1 : _ = some (Value.int .i64 0) := ZR.cell 1; have zf1 := ZR.free 1; have zr2 : _ = some (Value.int .i64 0) := ZR.cell 2; have zf2 := ZR.free 2; have zr3 : _ = some (Value.int .i64 0) := ZR.cell 3; have zf3 := ZR.free 3)))
  have bd : Below w2.heap.size w2 w2.drew := (Below.refl _ _).drew
  have y0c0 := (z0.on bd).2 0 _ rfl; have y0c1 := (z0.on bd).2 1 _ rfl; have y0c2 := (z0.on bd).2 2 _ rfl; have y0c3 := (z0.on bd).2 3 _ rfl
  have YR := ZR.below bd ZR.lt
  have yr0 : _ = some (Value.int .i64 0) := YR.cell 0; have yf0 := YR.free 0; have yr1 : _ = some (Value.int .i64 0) := YR.cell 1; have yf1 := YR.free 1; have yr2 : _ = some (Value.int .i64 0) := YR.cell 2; have yf2 := YR.free 2; have yr3 : _ = some (Value.int .i64 0) := YR.cell 3; have yf3 := YR.free 3
  clear bd h
  go_region
  go_wp2_with fail
  have VR := (((ZR.put 0 (.int .i64 k)).put 1 (.int .i64 (a : Int))).put 2 (.int .i64 (b : Int))).put 3 (.int .i64 c)
  have p0 : _ = some (Value.int .i64 k) := VR.cell 0; have p1 : _ = some (Value.int .i64 (a : Int)) := VR.cell 1; have p2 : _ = some (Value.int .i64 (b : Int)) := VR.cell 2; have p3 : _ = some (Value.int .i64 c) := VR.cell 3
  refine bodyPost_ret (v := .tuple #[.agg #[.int .i64 k, .int .i64 (a : Int), .int .i64 (b : Int), .int .i64 c], .int .i64 (b : Int)]) (by simp [results, Try.results114, go_sem, p0, p1, p2, p3]) rfl ⟨rfl, ((((BW.setCell (p := ⟨s1, 0, none⟩) hle (.int .i64 k)).setCell (p := ⟨s1, 1, none⟩) hle (.int .i64 (a : Int))).setCell (p := ⟨s1, 2, none⟩) hle (.int .i64 (b : Int))).setCell (p := ⟨s1, 3, none⟩) hle (.int .i64 c)).drew⟩
set_option maxHeartbeats 4000000 in
theorem andOr1_3 {w : World} {p : Nat} {M : List Nd} {S : List Int} (h : Fr w p M S) (k c q : Int) (a b : Nat) (ha : a < M.length) (hb : b < M.length) (c0 : isC M (a : Int) 1 = false) (c1 : isC M (b : Int) 1 = false) (c2 : isC M (a : Int) 0 = false) (c3 : isC M (b : Int) 0 = true) : Calls Try.prog 114 #[.pointer (some ⟨p, 0, none⟩), .agg #[.int .i64 k, .int .i64 (a : Int), .int .i64 (b : Int), .int .i64 c], .int .i64 q, .int .i64 1] w fun e w' => e = .returned (.tuple #[.agg #[.int .i64 k, .int .i64 (a : Int), .int .i64 (b : Int), .int .i64 c], .int .i64 (a : Int)]) ∧ Below w.heap.size w w' := by
  go_enter Try.func114, Try.ntmps114
  go_upto_region 1 with fail
  obtain ⟨w1, e1⟩ : ∃ w', (w.alloc (.cells #[.int .i64 k, .int .i64 (a : Int), .int .i64 (b : Int), .int .i64 c] 43)).alloc (.cells #[.int .i64 0, .int .i64 0, .int .i64 0, .int .i64 0] 43) = w' := ⟨_, rfl⟩
  have z0 : Bx w1 w.heap.size [.int .i64 k, .int .i64 (a : Int), .int .i64 (b : Int), .int .i64 c] := by
    rw [← e1]
    exact (Bx.made_k w rfl #[.int .i64 k, .int .i64 (a : Int), .int .i64 (b : Int), .int .i64 c] 43).on (below_lit _ _)
  have ZR : Own w1 (w.heap.size + 1) 43 [.int .i64 0, .int .i64 0, .int .i64 0, .int .i64 0] := by
    rw [← e1, ← size_lit w (.cells #[.int .i64 k, .int .i64 (a : Int), .int .i64 (b : Int), .int .i64 c] 43) rfl]
    exact Own.made _ 43 [.int .i64 0, .int .i64 0, .int .i64 0, .int .i64 0]
  have BW : Below w.heap.size w w1 := by rw [← e1]; exact below2 _ _ _
  replace h := h.on BW
  obtain ⟨s1, hs1⟩ : ∃ s1, w.heap.size + 1 = s1 := ⟨_, rfl⟩
  have hle : w.heap.size ≤ s1 := by omega
  have hne : w.heap.size ≠ s1 := by omega
  rw [e1]
  clear e1
  rw [hs1] at ZR ⊢
  have z0c0 := z0.2 0 _ rfl; have z0c1 := z0.2 1 _ rfl; have z0c2 := z0.2 2 _ rfl; have z0c3 := z0.2 3 _ rfl; have zr0 : _ = some (Value.int .i64 0) := ZR.cell 0; have zf0 := ZR.free 0; have zr1 : _ = some (Value.int .i64 0) := ZR.cell 1; have zf1 := ZR.free 1; have zr2 : _ = some (Value.int .i64 0) := ZR.cell 2; have zf2 := ZR.free 2; have zr3 : _ = some (Value.int .i64 0) := ZR.cell 3; have zf3 := ZR.free 3
  go_wp2_with (first | (go_at_call 126; (first | with_reducible refine (isConst_as h a ha 1 false c0).mono ?_ | with_reducible refine (isConst_as h b hb 1 false c1).mono ?_ | with_reducible refine (isConst_as h a ha 0 false c2).mono ?_ | with_reducible refine (isConst_as h b hb 0 true c3).mono ?_); (rintro en w2 ⟨rfl, b⟩; clear z0c0 z0c1 z0c2 z0c3 zr0 zr1 zr2 zr3 zf0 zf1 zf2 zf3; replace h := h.on b; replace z0 := z0.on b; replace ZR := ZR.below b ZR.lt; replace BW := Below.step BW b; clear b; have z0c0 := z0.2 0 _ rfl; have z0c1 := z0.2 1 _ rfl; have z0c2 := z0.2 2 _ rfl; have z0c3 := z0.2 3 _ rfl; have zr0 : _ = some (Value.int .i64 0) := ZR.cell 0; have zf0 := ZR.free 0; have zr1 : _ = some (Value.int .i64 0) := ZR.cell 1; have zf1 := ZR.free 1; have zr2 : _ = some (Value.int .i64 0) := ZR.cell 2; have zf2 := ZR.free 2; have zr3 : _ = some (Value.int .i64 0) := ZR.cell 3; have zf3 := ZR.free 3)))
  have bd : Below w2.heap.size w2 w2.drew := (Below.refl _ _).drew
  have y0c0 := (z0.on bd).2 0 _ rfl; have y0c1 := (z0.on bd).2 1 _ rfl; have y0c2 := (z0.on bd).2 2 _ rfl; have y0c3 := (z0.on bd).2 3 _ rfl
  have YR := ZR.below bd ZR.lt
  have yr0 : _ = some (Value.int .i64 0) := YR.cell 0; have yf0 := YR.free 0; have yr1 : _ = some (Value.int .i64 0) := YR.cell 1; have yf1 := YR.free 1; have yr2 : _ = some (Value.int .i64 0) := YR.cell 2; have yf2 := YR.free 2; have yr3 : _ = some (Value.int .i64 0) := YR.cell 3; have yf3 := YR.free 3
  clear bd h
  go_region
  go_wp2_with fail
  have VR := (((ZR.put 0 (.int .i64 k)).put 1 (.int .i64 (a : Int))).put 2 (.int .i64 (b : Int))).put 3 (.int .i64 c)
  have p0 : _ = some (Value.int .i64 k) := VR.cell 0; have p1 : _ = some (Value.int .i64 (a : Int)) := VR.cell 1; have p2 : _ = some (Value.int .i64 (b : Int)) := VR.cell 2; have p3 : _ = some (Value.int .i64 c) := VR.cell 3
  refine bodyPost_ret (v := .tuple #[.agg #[.int .i64 k, .int .i64 (a : Int), .int .i64 (b : Int), .int .i64 c], .int .i64 (a : Int)]) (by simp [results, Try.results114, go_sem, p0, p1, p2, p3]) rfl ⟨rfl, ((((BW.setCell (p := ⟨s1, 0, none⟩) hle (.int .i64 k)).setCell (p := ⟨s1, 1, none⟩) hle (.int .i64 (a : Int))).setCell (p := ⟨s1, 2, none⟩) hle (.int .i64 (b : Int))).setCell (p := ⟨s1, 3, none⟩) hle (.int .i64 c)).drew⟩
set_option maxHeartbeats 4000000 in
theorem andOr1_4 {w : World} {p : Nat} {M : List Nd} {S : List Int} (h : Fr w p M S) (k c q : Int) (a b : Nat) (ha : a < M.length) (hb : b < M.length) (c0 : isC M (a : Int) 1 = false) (c1 : isC M (b : Int) 1 = false) (c2 : isC M (a : Int) 0 = false) (c3 : isC M (b : Int) 0 = false) (c4 : ((a : Int) == (b : Int)) = true) : Calls Try.prog 114 #[.pointer (some ⟨p, 0, none⟩), .agg #[.int .i64 k, .int .i64 (a : Int), .int .i64 (b : Int), .int .i64 c], .int .i64 q, .int .i64 1] w fun e w' => e = .returned (.tuple #[.agg #[.int .i64 k, .int .i64 (a : Int), .int .i64 (b : Int), .int .i64 c], .int .i64 (a : Int)]) ∧ Below w.heap.size w w' := by
  go_enter Try.func114, Try.ntmps114
  go_upto_region 1 with fail
  obtain ⟨w1, e1⟩ : ∃ w', (w.alloc (.cells #[.int .i64 k, .int .i64 (a : Int), .int .i64 (b : Int), .int .i64 c] 43)).alloc (.cells #[.int .i64 0, .int .i64 0, .int .i64 0, .int .i64 0] 43) = w' := ⟨_, rfl⟩
  have z0 : Bx w1 w.heap.size [.int .i64 k, .int .i64 (a : Int), .int .i64 (b : Int), .int .i64 c] := by
    rw [← e1]
    exact (Bx.made_k w rfl #[.int .i64 k, .int .i64 (a : Int), .int .i64 (b : Int), .int .i64 c] 43).on (below_lit _ _)
  have ZR : Own w1 (w.heap.size + 1) 43 [.int .i64 0, .int .i64 0, .int .i64 0, .int .i64 0] := by
    rw [← e1, ← size_lit w (.cells #[.int .i64 k, .int .i64 (a : Int), .int .i64 (b : Int), .int .i64 c] 43) rfl]
    exact Own.made _ 43 [.int .i64 0, .int .i64 0, .int .i64 0, .int .i64 0]
  have BW : Below w.heap.size w w1 := by rw [← e1]; exact below2 _ _ _
  replace h := h.on BW
  obtain ⟨s1, hs1⟩ : ∃ s1, w.heap.size + 1 = s1 := ⟨_, rfl⟩
  have hle : w.heap.size ≤ s1 := by omega
  have hne : w.heap.size ≠ s1 := by omega
  rw [e1]
  clear e1
  rw [hs1] at ZR ⊢
  have z0c0 := z0.2 0 _ rfl; have z0c1 := z0.2 1 _ rfl; have z0c2 := z0.2 2 _ rfl; have z0c3 := z0.2 3 _ rfl; have zr0 : _ = some (Value.int .i64 0) := ZR.cell 0; have zf0 := ZR.free 0; have zr1 : _ = some (Value.int .i64 0) := ZR.cell 1; have zf1 := ZR.free 1; have zr2 : _ = some (Value.int .i64 0) := ZR.cell 2; have zf2 := ZR.free 2; have zr3 : _ = some (Value.int .i64 0) := ZR.cell 3; have zf3 := ZR.free 3
  go_wp2_with (first | (go_at_call 126; (first | with_reducible refine (isConst_as h a ha 1 false c0).mono ?_ | with_reducible refine (isConst_as h b hb 1 false c1).mono ?_ | with_reducible refine (isConst_as h a ha 0 false c2).mono ?_ | with_reducible refine (isConst_as h b hb 0 false c3).mono ?_); (rintro en w2 ⟨rfl, b⟩; clear z0c0 z0c1 z0c2 z0c3 zr0 zr1 zr2 zr3 zf0 zf1 zf2 zf3; replace h := h.on b; replace z0 := z0.on b; replace ZR := ZR.below b ZR.lt; replace BW := Below.step BW b; clear b; have z0c0 := z0.2 0 _ rfl; have z0c1 := z0.2 1 _ rfl; have z0c2 := z0.2 2 _ rfl; have z0c3 := z0.2 3 _ rfl; have zr0 : _ = some (Value.int .i64 0) := ZR.cell 0; have zf0 := ZR.free 0; have zr1 : _ = some (Value.int .i64 0) := ZR.cell 1; have zf1 := ZR.free 1; have zr2 : _ = some (Value.int .i64 0) := ZR.cell 2; have zf2 := ZR.free 2; have zr3 : _ = some (Value.int .i64 0) := ZR.cell 3; have zf3 := ZR.free 3)))
  have bd : Below w2.heap.size w2 w2.drew := (Below.refl _ _).drew
  have y0c0 := (z0.on bd).2 0 _ rfl; have y0c1 := (z0.on bd).2 1 _ rfl; have y0c2 := (z0.on bd).2 2 _ rfl; have y0c3 := (z0.on bd).2 3 _ rfl
  have YR := ZR.below bd ZR.lt
  have yr0 : _ = some (Value.int .i64 0) := YR.cell 0; have yf0 := YR.free 0; have yr1 : _ = some (Value.int .i64 0) := YR.cell 1; have yf1 := YR.free 1; have yr2 : _ = some (Value.int .i64 0) := YR.cell 2; have yf2 := YR.free 2; have yr3 : _ = some (Value.int .i64 0) := YR.cell 3; have yf3 := YR.free 3
  clear bd h
  go_region
  go_wp2_with fail
  have VR := (((ZR.put 0 (.int .i64 k)).put 1 (.int .i64 (a : Int))).put 2 (.int .i64 (b : Int))).put 3 (.int .i64 c)
  have p0 : _ = some (Value.int .i64 k) := VR.cell 0; have p1 : _ = some (Value.int .i64 (a : Int)) := VR.cell 1; have p2 : _ = some (Value.int .i64 (b : Int)) := VR.cell 2; have p3 : _ = some (Value.int .i64 c) := VR.cell 3
  refine bodyPost_ret (v := .tuple #[.agg #[.int .i64 k, .int .i64 (a : Int), .int .i64 (b : Int), .int .i64 c], .int .i64 (a : Int)]) (by simp [results, Try.results114, go_sem, p0, p1, p2, p3]) rfl ⟨rfl, ((((BW.setCell (p := ⟨s1, 0, none⟩) hle (.int .i64 k)).setCell (p := ⟨s1, 1, none⟩) hle (.int .i64 (a : Int))).setCell (p := ⟨s1, 2, none⟩) hle (.int .i64 (b : Int))).setCell (p := ⟨s1, 3, none⟩) hle (.int .i64 c)).drew⟩
set_option maxHeartbeats 4000000 in
theorem andOr1_5 {w : World} {p : Nat} {M : List Nd} {S : List Int} (h : Fr w p M S) (k c q : Int) (a b : Nat) (ha : a < M.length) (hb : b < M.length) (c0 : isC M (a : Int) 1 = false) (c1 : isC M (b : Int) 1 = false) (c2 : isC M (a : Int) 0 = false) (c3 : isC M (b : Int) 0 = false) (c4 : ((a : Int) == (b : Int)) = false) (c5 : areT M (a : Int) (b : Int) = true) : Calls Try.prog 114 #[.pointer (some ⟨p, 0, none⟩), .agg #[.int .i64 k, .int .i64 (a : Int), .int .i64 (b : Int), .int .i64 c], .int .i64 q, .int .i64 1] w fun e w' => e = .returned (.tuple #[.agg #[.int .i64 0, .int .i64 1, .int .i64 0, .int .i64 0], .int .i64 q]) ∧ Below w.heap.size w w' := by
  go_enter Try.func114, Try.ntmps114
  go_upto_region 1 with fail
  obtain ⟨w1, e1⟩ : ∃ w', (w.alloc (.cells #[.int .i64 k, .int .i64 (a : Int), .int .i64 (b : Int), .int .i64 c] 43)).alloc (.cells #[.int .i64 0, .int .i64 0, .int .i64 0, .int .i64 0] 43) = w' := ⟨_, rfl⟩
  have z0 : Bx w1 w.heap.size [.int .i64 k, .int .i64 (a : Int), .int .i64 (b : Int), .int .i64 c] := by
    rw [← e1]
    exact (Bx.made_k w rfl #[.int .i64 k, .int .i64 (a : Int), .int .i64 (b : Int), .int .i64 c] 43).on (below_lit _ _)
  have ZR : Own w1 (w.heap.size + 1) 43 [.int .i64 0, .int .i64 0, .int .i64 0, .int .i64 0] := by
    rw [← e1, ← size_lit w (.cells #[.int .i64 k, .int .i64 (a : Int), .int .i64 (b : Int), .int .i64 c] 43) rfl]
    exact Own.made _ 43 [.int .i64 0, .int .i64 0, .int .i64 0, .int .i64 0]
  have BW : Below w.heap.size w w1 := by rw [← e1]; exact below2 _ _ _
  replace h := h.on BW
  obtain ⟨s1, hs1⟩ : ∃ s1, w.heap.size + 1 = s1 := ⟨_, rfl⟩
  have hle : w.heap.size ≤ s1 := by omega
  have hne : w.heap.size ≠ s1 := by omega
  rw [e1]
  clear e1
  rw [hs1] at ZR ⊢
  have z0c0 := z0.2 0 _ rfl; have z0c1 := z0.2 1 _ rfl; have z0c2 := z0.2 2 _ rfl; have z0c3 := z0.2 3 _ rfl; have zr0 : _ = some (Value.int .i64 0) := ZR.cell 0; have zf0 := ZR.free 0; have zr1 : _ = some (Value.int .i64 0) := ZR.cell 1; have zf1 := ZR.free 1; have zr2 : _ = some (Value.int .i64 0) := ZR.cell 2; have zf2 := ZR.free 2; have zr3 : _ = some (Value.int .i64 0) := ZR.cell 3; have zf3 := ZR.free 3
  go_wp2_with (first | (go_at_call 126; (first | with_reducible refine (isConst_as h a ha 1 false c0).mono ?_ | with_reducible refine (isConst_as h b hb 1 false c1).mono ?_ | with_reducible refine (isConst_as h a ha 0 false c2).mono ?_ | with_reducible refine (isConst_as h b hb 0 false c3).mono ?_); (rintro en w2 ⟨rfl, b⟩; clear z0c0 z0c1 z0c2 z0c3 zr0 zr1 zr2 zr3 zf0 zf1 zf2 zf3; replace h := h.on b; replace z0 := z0.on b; replace ZR := ZR.below b ZR.lt; replace BW := Below.step BW b; clear b; have z0c0 := z0.2 0 _ rfl; have z0c1 := z0.2 1 _ rfl; have z0c2 := z0.2 2 _ rfl; have z0c3 := z0.2 3 _ rfl; have zr0 : _ = some (Value.int .i64 0) := ZR.cell 0; have zf0 := ZR.free 0; have zr1 : _ = some (Value.int .i64 0) := ZR.cell 1; have zf1 := ZR.free 1; have zr2 : _ = some (Value.int .i64 0) := ZR.cell 2; have zf2 := ZR.free 2; have zr3 : _ = some (Value.int .i64 0) := ZR.cell 3; have zf3 := ZR.free 3)) | (go_at_call 127; (first | with_reducible refine (areTurned_as h a b ha hb true c5).mono ?_); (rintro en w2 ⟨rfl, b⟩; clear z0c0 z0c1 z0c2 z0c3 zr0 zr1 zr2 zr3 zf0 zf1 zf2 zf3; replace h := h.on b; replace z0 := z0.on b; replace ZR := ZR.below b ZR.lt; replace BW := Below.step BW b; clear b; have z0c0 := z0.2 0 _ rfl; have z0c1 := z0.2 1 _ rfl; have z0c2 := z0.2 2 _ rfl; have z0c3 := z0.2 3 _ rfl; have zr0 : _ = some (Value.int .i64 0) := ZR.cell 0; have zf0 := ZR.free 0; have zr1 : _ = some (Value.int .i64 0) := ZR.cell 1; have zf1 := ZR.free 1; have zr2 : _ = some (Value.int .i64 0) := ZR.cell 2; have zf2 := ZR.free 2; have zr3 : _ = some (Value.int .i64 0) := ZR.cell 3; have zf3 := ZR.free 3)) | (go_at_call 125; (first | with_reducible refine (constant_as 1 _).mono ?_); (rintro en w2 ⟨rfl, b⟩; clear z0c0 z0c1 z0c2 z0c3 zr0 zr1 zr2 zr3 zf0 zf1 zf2 zf3; replace h := h.on b; replace z0 := z0.on b; replace ZR := ZR.below b ZR.lt; replace BW := Below.step BW b; clear b; have z0c0 := z0.2 0 _ rfl; have z0c1 := z0.2 1 _ rfl; have z0c2 := z0.2 2 _ rfl; have z0c3 := z0.2 3 _ rfl; have zr0 : _ = some (Value.int .i64 0) := ZR.cell 0; have zf0 := ZR.free 0; have zr1 : _ = some (Value.int .i64 0) := ZR.cell 1; have zf1 := ZR.free 1; have zr2 : _ = some (Value.int .i64 0) := ZR.cell 2; have zf2 := ZR.free 2; have zr3 : _ = some (Value.int .i64 0) := ZR.cell 3; have zf3 := ZR.free 3)))
  have VR := (((ZR.put 0 (.int .i64 0)).put 1 (.int .i64 1)).put 2 (.int .i64 0)).put 3 (.int .i64 0)
  have p0 : _ = some (Value.int .i64 0) := VR.cell 0; have p1 : _ = some (Value.int .i64 1) := VR.cell 1; have p2 : _ = some (Value.int .i64 0) := VR.cell 2; have p3 : _ = some (Value.int .i64 0) := VR.cell 3
  refine bodyPost_ret (v := .tuple #[.agg #[.int .i64 0, .int .i64 1, .int .i64 0, .int .i64 0], .int .i64 q]) (by simp [results, Try.results114, go_sem, p0, p1, p2, p3]) rfl ⟨rfl, ((((BW.setCell (p := ⟨s1, 0, none⟩) hle (.int .i64 0)).setCell (p := ⟨s1, 1, none⟩) hle (.int .i64 1)).setCell (p := ⟨s1, 2, none⟩) hle (.int .i64 0)).setCell (p := ⟨s1, 3, none⟩) hle (.int .i64 0))⟩
set_option maxHeartbeats 4000000 in
theorem andOr1_6 {w : World} {p : Nat} {M : List Nd} {S : List Int} (h : Fr w p M S) (k c q : Int) (a b : Nat) (ha : a < M.length) (hb : b < M.length) (c0 : isC M (a : Int) 1 = false) (c1 : isC M (b : Int) 1 = false) (c2 : isC M (a : Int) 0 = false) (c3 : isC M (b : Int) 0 = false) (c4 : ((a : Int) == (b : Int)) = false) (c5 : areT M (a : Int) (b : Int) = false) : Calls Try.prog 114 #[.pointer (some ⟨p, 0, none⟩), .agg #[.int .i64 k, .int .i64 (a : Int), .int .i64 (b : Int), .int .i64 c], .int .i64 q, .int .i64 1] w fun e w' => e = .returned (.tuple #[.agg #[.int .i64 k, .int .i64 (a : Int), .int .i64 (b : Int), .int .i64 c], .int .i64 q]) ∧ Below w.heap.size w w' := by
  go_enter Try.func114, Try.ntmps114
  go_upto_region 1 with fail
  obtain ⟨w1, e1⟩ : ∃ w', (w.alloc (.cells #[.int .i64 k, .int .i64 (a : Int), .int .i64 (b : Int), .int .i64 c] 43)).alloc (.cells #[.int .i64 0, .int .i64 0, .int .i64 0, .int .i64 0] 43) = w' := ⟨_, rfl⟩
  have z0 : Bx w1 w.heap.size [.int .i64 k, .int .i64 (a : Int), .int .i64 (b : Int), .int .i64 c] := by
    rw [← e1]
    exact (Bx.made_k w rfl #[.int .i64 k, .int .i64 (a : Int), .int .i64 (b : Int), .int .i64 c] 43).on (below_lit _ _)
  have ZR : Own w1 (w.heap.size + 1) 43 [.int .i64 0, .int .i64 0, .int .i64 0, .int .i64 0] := by
    rw [← e1, ← size_lit w (.cells #[.int .i64 k, .int .i64 (a : Int), .int .i64 (b : Int), .int .i64 c] 43) rfl]
    exact Own.made _ 43 [.int .i64 0, .int .i64 0, .int .i64 0, .int .i64 0]
  have BW : Below w.heap.size w w1 := by rw [← e1]; exact below2 _ _ _
  replace h := h.on BW
  obtain ⟨s1, hs1⟩ : ∃ s1, w.heap.size + 1 = s1 := ⟨_, rfl⟩
  have hle : w.heap.size ≤ s1 := by omega
  have hne : w.heap.size ≠ s1 := by omega
  rw [e1]
  clear e1
  rw [hs1] at ZR ⊢
  have z0c0 := z0.2 0 _ rfl; have z0c1 := z0.2 1 _ rfl; have z0c2 := z0.2 2 _ rfl; have z0c3 := z0.2 3 _ rfl; have zr0 : _ = some (Value.int .i64 0) := ZR.cell 0; have zf0 := ZR.free 0; have zr1 : _ = some (Value.int .i64 0) := ZR.cell 1; have zf1 := ZR.free 1; have zr2 : _ = some (Value.int .i64 0) := ZR.cell 2; have zf2 := ZR.free 2; have zr3 : _ = some (Value.int .i64 0) := ZR.cell 3; have zf3 := ZR.free 3
  go_wp2_with (first | (go_at_call 126; (first | with_reducible refine (isConst_as h a ha 1 false c0).mono ?_ | with_reducible refine (isConst_as h b hb 1 false c1).mono ?_ | with_reducible refine (isConst_as h a ha 0 false c2).mono ?_ | with_reducible refine (isConst_as h b hb 0 false c3).mono ?_); (rintro en w2 ⟨rfl, b⟩; clear z0c0 z0c1 z0c2 z0c3 zr0 zr1 zr2 zr3 zf0 zf1 zf2 zf3; replace h := h.on b; replace z0 := z0.on b; replace ZR := ZR.below b ZR.lt; replace BW := Below.step BW b; clear b; have z0c0 := z0.2 0 _ rfl; have z0c1 := z0.2 1 _ rfl; have z0c2 := z0.2 2 _ rfl; have z0c3 := z0.2 3 _ rfl; have zr0 : _ = some (Value.int .i64 0) := ZR.cell 0; have zf0 := ZR.free 0; have zr1 : _ = some (Value.int .i64 0) := ZR.cell 1; have zf1 := ZR.free 1; have zr2 : _ = some (Value.int .i64 0) := ZR.cell 2; have zf2 := ZR.free 2; have zr3 : _ = some (Value.int .i64 0) := ZR.cell 3; have zf3 := ZR.free 3)) | (go_at_call 127; (first | with_reducible refine (areTurned_as h a b ha hb false c5).mono ?_); (rintro en w2 ⟨rfl, b⟩; clear z0c0 z0c1 z0c2 z0c3 zr0 zr1 zr2 zr3 zf0 zf1 zf2 zf3; replace h := h.on b; replace z0 := z0.on b; replace ZR := ZR.below b ZR.lt; replace BW := Below.step BW b; clear b; have z0c0 := z0.2 0 _ rfl; have z0c1 := z0.2 1 _ rfl; have z0c2 := z0.2 2 _ rfl; have z0c3 := z0.2 3 _ rfl; have zr0 : _ = some (Value.int .i64 0) := ZR.cell 0; have zf0 := ZR.free 0; have zr1 : _ = some (Value.int .i64 0) := ZR.cell 1; have zf1 := ZR.free 1; have zr2 : _ = some (Value.int .i64 0) := ZR.cell 2; have zf2 := ZR.free 2; have zr3 : _ = some (Value.int .i64 0) := ZR.cell 3; have zf3 := ZR.free 3)))
  have VR := (((ZR.put 0 (.int .i64 k)).put 1 (.int .i64 (a : Int))).put 2 (.int .i64 (b : Int))).put 3 (.int .i64 c)
  have p0 : _ = some (Value.int .i64 k) := VR.cell 0; have p1 : _ = some (Value.int .i64 (a : Int)) := VR.cell 1; have p2 : _ = some (Value.int .i64 (b : Int)) := VR.cell 2; have p3 : _ = some (Value.int .i64 c) := VR.cell 3
  refine bodyPost_ret (v := .tuple #[.agg #[.int .i64 k, .int .i64 (a : Int), .int .i64 (b : Int), .int .i64 c], .int .i64 q]) (by simp [results, Try.results114, go_sem, p0, p1, p2, p3]) rfl ⟨rfl, ((((BW.setCell (p := ⟨s1, 0, none⟩) hle (.int .i64 k)).setCell (p := ⟨s1, 1, none⟩) hle (.int .i64 (a : Int))).setCell (p := ⟨s1, 2, none⟩) hle (.int .i64 (b : Int))).setCell (p := ⟨s1, 3, none⟩) hle (.int .i64 c))⟩
theorem foldandOr1_as {w : World} {p : Nat} {M : List Nd} {S : List Int} (h : Fr w p M S) (k c q : Int) (a b : Nat) (ha : a < M.length) (hb : b < M.length) : Calls Try.prog 114 #[.pointer (some ⟨p, 0, none⟩), .agg #[.int .i64 k, .int .i64 (a : Int), .int .i64 (b : Int), .int .i64 c], .int .i64 q, .int .i64 1] w fun e w' => e = .returned (.tuple #[ndA (aoL M ⟨k, (a : Int), (b : Int), c⟩ q 1).1, .int .i64 (aoL M ⟨k, (a : Int), (b : Int), c⟩ q 1).2]) ∧ Below w.heap.size w w' := by
  cases c0 : isC M (a : Int) 1
  · cases c1 : isC M (b : Int) 1
    · cases c2 : isC M (a : Int) 0
      · cases c3 : isC M (b : Int) 0
        · cases c4 : ((a : Int) == (b : Int))
          · cases c5 : areT M (a : Int) (b : Int)
            · rw [show aoL M ⟨k, (a : Int), (b : Int), c⟩ q 1 = (⟨k, (a : Int), (b : Int), c⟩, q) from by unfold aoL; simp [*] <;> rfl]
              exact andOr1_6 h k c q a b ha hb c0 c1 c2 c3 c4 c5
            · rw [show aoL M ⟨k, (a : Int), (b : Int), c⟩ q 1 = (⟨0, 1, 0, 0⟩, q) from by unfold aoL; simp [*] <;> rfl]
              exact andOr1_5 h k c q a b ha hb c0 c1 c2 c3 c4 c5
          · rw [show aoL M ⟨k, (a : Int), (b : Int), c⟩ q 1 = (⟨k, (a : Int), (b : Int), c⟩, (a : Int)) from by unfold aoL; simp [*] <;> rfl]
            exact andOr1_4 h k c q a b ha hb c0 c1 c2 c3 c4
        · rw [show aoL M ⟨k, (a : Int), (b : Int), c⟩ q 1 = (⟨k, (a : Int), (b : Int), c⟩, (a : Int)) from by unfold aoL; simp [*] <;> rfl]
          exact andOr1_3 h k c q a b ha hb c0 c1 c2 c3
      · rw [show aoL M ⟨k, (a : Int), (b : Int), c⟩ q 1 = (⟨k, (a : Int), (b : Int), c⟩, (b : Int)) from by unfold aoL; simp [*] <;> rfl]
        exact andOr1_2 h k c q a b ha hb c0 c1 c2
    · rw [show aoL M ⟨k, (a : Int), (b : Int), c⟩ q 1 = (⟨0, 1, 0, 0⟩, q) from by unfold aoL; simp [*] <;> rfl]
      exact andOr1_1 h k c q a b ha hb c0 c1
  · rw [show aoL M ⟨k, (a : Int), (b : Int), c⟩ q 1 = (⟨0, 1, 0, 0⟩, q) from by unfold aoL; simp [*] <;> rfl]
    exact andOr1_0 h k c q a b ha hb c0
set_option maxHeartbeats 4000000 in
theorem xor_0 {w : World} {p : Nat} {M : List Nd} {S : List Int} (h : Fr w p M S) (k c q : Int) (a b : Nat) (ha : a < M.length) (hb : b < M.length) (c0 : ((a : Int) == (b : Int)) = true) : Calls Try.prog 115 #[.pointer (some ⟨p, 0, none⟩), .agg #[.int .i64 k, .int .i64 (a : Int), .int .i64 (b : Int), .int .i64 c], .int .i64 q] w fun e w' => e = .returned (.tuple #[.agg #[.int .i64 0, .int .i64 0, .int .i64 0, .int .i64 0], .int .i64 q]) ∧ Below w.heap.size w w' := by
  go_enter Try.func115, Try.ntmps115
  go_upto_region 1 with fail
  obtain ⟨w1, e1⟩ : ∃ w', (w.alloc (.cells #[.int .i64 k, .int .i64 (a : Int), .int .i64 (b : Int), .int .i64 c] 43)).alloc (.cells #[.int .i64 0, .int .i64 0, .int .i64 0, .int .i64 0] 43) = w' := ⟨_, rfl⟩
  have z0 : Bx w1 w.heap.size [.int .i64 k, .int .i64 (a : Int), .int .i64 (b : Int), .int .i64 c] := by
    rw [← e1]
    exact (Bx.made_k w rfl #[.int .i64 k, .int .i64 (a : Int), .int .i64 (b : Int), .int .i64 c] 43).on (below_lit _ _)
  have ZR : Own w1 (w.heap.size + 1) 43 [.int .i64 0, .int .i64 0, .int .i64 0, .int .i64 0] := by
    rw [← e1, ← size_lit w (.cells #[.int .i64 k, .int .i64 (a : Int), .int .i64 (b : Int), .int .i64 c] 43) rfl]
    exact Own.made _ 43 [.int .i64 0, .int .i64 0, .int .i64 0, .int .i64 0]
  have BW : Below w.heap.size w w1 := by rw [← e1]; exact below2 _ _ _
  replace h := h.on BW
  obtain ⟨s1, hs1⟩ : ∃ s1, w.heap.size + 1 = s1 := ⟨_, rfl⟩
  have hle : w.heap.size ≤ s1 := by omega
  have hne : w.heap.size ≠ s1 := by omega
  rw [e1]
  clear e1
  rw [hs1] at ZR ⊢
  have z0c0 := z0.2 0 _ rfl; have z0c1 := z0.2 1 _ rfl; have z0c2 := z0.2 2 _ rfl; have z0c3 := z0.2 3 _ rfl; have zr0 : _ = some (Value.int .i64 0) := ZR.cell 0; have zf0 := ZR.free 0; have zr1 : _ = some (Value.int .i64 0) := ZR.cell 1; have zf1 := ZR.free 1; have zr2 : _ = some (Value.int .i64 0) := ZR.cell 2; have zf2 := ZR.free 2; have zr3 : _ = some (Value.int .i64 0) := ZR.cell 3; have zf3 := ZR.free 3
  go_wp2_with (first | (go_at_call 125; (first | with_reducible refine (constant_as 0 _).mono ?_); (rintro en w2 ⟨rfl, b⟩; clear z0c0 z0c1 z0c2 z0c3 zr0 zr1 zr2 zr3 zf0 zf1 zf2 zf3; replace h := h.on b; replace z0 := z0.on b; replace ZR := ZR.below b ZR.lt; replace BW := Below.step BW b; clear b; have z0c0 := z0.2 0 _ rfl; have z0c1 := z0.2 1 _ rfl; have z0c2 := z0.2 2 _ rfl; have z0c3 := z0.2 3 _ rfl; have zr0 : _ = some (Value.int .i64 0) := ZR.cell 0; have zf0 := ZR.free 0; have zr1 : _ = some (Value.int .i64 0) := ZR.cell 1; have zf1 := ZR.free 1; have zr2 : _ = some (Value.int .i64 0) := ZR.cell 2; have zf2 := ZR.free 2; have zr3 : _ = some (Value.int .i64 0) := ZR.cell 3; have zf3 := ZR.free 3)))
  have VR := (((ZR.put 0 (.int .i64 0)).put 1 (.int .i64 0)).put 2 (.int .i64 0)).put 3 (.int .i64 0)
  have p0 : _ = some (Value.int .i64 0) := VR.cell 0; have p1 : _ = some (Value.int .i64 0) := VR.cell 1; have p2 : _ = some (Value.int .i64 0) := VR.cell 2; have p3 : _ = some (Value.int .i64 0) := VR.cell 3
  refine bodyPost_ret (v := .tuple #[.agg #[.int .i64 0, .int .i64 0, .int .i64 0, .int .i64 0], .int .i64 q]) (by simp [results, Try.results115, go_sem, p0, p1, p2, p3]) rfl ⟨rfl, ((((BW.setCell (p := ⟨s1, 0, none⟩) hle (.int .i64 0)).setCell (p := ⟨s1, 1, none⟩) hle (.int .i64 0)).setCell (p := ⟨s1, 2, none⟩) hle (.int .i64 0)).setCell (p := ⟨s1, 3, none⟩) hle (.int .i64 0))⟩
set_option maxHeartbeats 4000000 in
theorem xor_1 {w : World} {p : Nat} {M : List Nd} {S : List Int} (h : Fr w p M S) (k c q : Int) (a b : Nat) (ha : a < M.length) (hb : b < M.length) (c0 : ((a : Int) == (b : Int)) = false) (c1 : isC M (a : Int) 0 = true) : Calls Try.prog 115 #[.pointer (some ⟨p, 0, none⟩), .agg #[.int .i64 k, .int .i64 (a : Int), .int .i64 (b : Int), .int .i64 c], .int .i64 q] w fun e w' => e = .returned (.tuple #[.agg #[.int .i64 k, .int .i64 (a : Int), .int .i64 (b : Int), .int .i64 c], .int .i64 (b : Int)]) ∧ Below w.heap.size w w' := by
  go_enter Try.func115, Try.ntmps115
  go_upto_region 1 with fail
  obtain ⟨w1, e1⟩ : ∃ w', (w.alloc (.cells #[.int .i64 k, .int .i64 (a : Int), .int .i64 (b : Int), .int .i64 c] 43)).alloc (.cells #[.int .i64 0, .int .i64 0, .int .i64 0, .int .i64 0] 43) = w' := ⟨_, rfl⟩
  have z0 : Bx w1 w.heap.size [.int .i64 k, .int .i64 (a : Int), .int .i64 (b : Int), .int .i64 c] := by
    rw [← e1]
    exact (Bx.made_k w rfl #[.int .i64 k, .int .i64 (a : Int), .int .i64 (b : Int), .int .i64 c] 43).on (below_lit _ _)
  have ZR : Own w1 (w.heap.size + 1) 43 [.int .i64 0, .int .i64 0, .int .i64 0, .int .i64 0] := by
    rw [← e1, ← size_lit w (.cells #[.int .i64 k, .int .i64 (a : Int), .int .i64 (b : Int), .int .i64 c] 43) rfl]
    exact Own.made _ 43 [.int .i64 0, .int .i64 0, .int .i64 0, .int .i64 0]
  have BW : Below w.heap.size w w1 := by rw [← e1]; exact below2 _ _ _
  replace h := h.on BW
  obtain ⟨s1, hs1⟩ : ∃ s1, w.heap.size + 1 = s1 := ⟨_, rfl⟩
  have hle : w.heap.size ≤ s1 := by omega
  have hne : w.heap.size ≠ s1 := by omega
  rw [e1]
  clear e1
  rw [hs1] at ZR ⊢
  have z0c0 := z0.2 0 _ rfl; have z0c1 := z0.2 1 _ rfl; have z0c2 := z0.2 2 _ rfl; have z0c3 := z0.2 3 _ rfl; have zr0 : _ = some (Value.int .i64 0) := ZR.cell 0; have zf0 := ZR.free 0; have zr1 : _ = some (Value.int .i64 0) := ZR.cell 1; have zf1 := ZR.free 1; have zr2 : _ = some (Value.int .i64 0) := ZR.cell 2; have zf2 := ZR.free 2; have zr3 : _ = some (Value.int .i64 0) := ZR.cell 3; have zf3 := ZR.free 3
  go_wp2_with (first | (go_at_call 126; (first | with_reducible refine (isConst_as h a ha 0 true c1).mono ?_); (rintro en w2 ⟨rfl, b⟩; clear z0c0 z0c1 z0c2 z0c3 zr0 zr1 zr2 zr3 zf0 zf1 zf2 zf3; replace h := h.on b; replace z0 := z0.on b; replace ZR := ZR.below b ZR.lt; replace BW := Below.step BW b; clear b; have z0c0 := z0.2 0 _ rfl; have z0c1 := z0.2 1 _ rfl; have z0c2 := z0.2 2 _ rfl; have z0c3 := z0.2 3 _ rfl; have zr0 : _ = some (Value.int .i64 0) := ZR.cell 0; have zf0 := ZR.free 0; have zr1 : _ = some (Value.int .i64 0) := ZR.cell 1; have zf1 := ZR.free 1; have zr2 : _ = some (Value.int .i64 0) := ZR.cell 2; have zf2 := ZR.free 2; have zr3 : _ = some (Value.int .i64 0) := ZR.cell 3; have zf3 := ZR.free 3)))
  have bd : Below w2.heap.size w2 w2.drew := (Below.refl _ _).drew
  have y0c0 := (z0.on bd).2 0 _ rfl; have y0c1 := (z0.on bd).2 1 _ rfl; have y0c2 := (z0.on bd).2 2 _ rfl; have y0c3 := (z0.on bd).2 3 _ rfl
  have YR := ZR.below bd ZR.lt
  have yr0 : _ = some (Value.int .i64 0) := YR.cell 0; have yf0 := YR.free 0; have yr1 : _ = some (Value.int .i64 0) := YR.cell 1; have yf1 := YR.free 1; have yr2 : _ = some (Value.int .i64 0) := YR.cell 2; have yf2 := YR.free 2; have yr3 : _ = some (Value.int .i64 0) := YR.cell 3; have yf3 := YR.free 3
  clear bd h
  go_region
  go_wp2_with fail
  have VR := (((ZR.put 0 (.int .i64 k)).put 1 (.int .i64 (a : Int))).put 2 (.int .i64 (b : Int))).put 3 (.int .i64 c)
  have p0 : _ = some (Value.int .i64 k) := VR.cell 0; have p1 : _ = some (Value.int .i64 (a : Int)) := VR.cell 1; have p2 : _ = some (Value.int .i64 (b : Int)) := VR.cell 2; have p3 : _ = some (Value.int .i64 c) := VR.cell 3
  refine bodyPost_ret (v := .tuple #[.agg #[.int .i64 k, .int .i64 (a : Int), .int .i64 (b : Int), .int .i64 c], .int .i64 (b : Int)]) (by simp [results, Try.results115, go_sem, p0, p1, p2, p3]) rfl ⟨rfl, ((((BW.setCell (p := ⟨s1, 0, none⟩) hle (.int .i64 k)).setCell (p := ⟨s1, 1, none⟩) hle (.int .i64 (a : Int))).setCell (p := ⟨s1, 2, none⟩) hle (.int .i64 (b : Int))).setCell (p := ⟨s1, 3, none⟩) hle (.int .i64 c)).drew⟩
set_option maxHeartbeats 4000000 in
theorem xor_2 {w : World} {p : Nat} {M : List Nd} {S : List Int} (h : Fr w p M S) (k c q : Int) (a b : Nat) (ha : a < M.length) (hb : b < M.length) (c0 : ((a : Int) == (b : Int)) = false) (c1 : isC M (a : Int) 0 = false) (c2 : isC M (b : Int) 0 = true) : Calls Try.prog 115 #[.pointer (some ⟨p, 0, none⟩), .agg #[.int .i64 k, .int .i64 (a : Int), .int .i64 (b : Int), .int .i64 c], .int .i64 q] w fun e w' => e = .returned (.tuple #[.agg #[.int .i64 k, .int .i64 (a : Int), .int .i64 (b : Int), .int .i64 c], .int .i64 (a : Int)]) ∧ Below w.heap.size w w' := by
  go_enter Try.func115, Try.ntmps115
  go_upto_region 1 with fail
  obtain ⟨w1, e1⟩ : ∃ w', (w.alloc (.cells #[.int .i64 k, .int .i64 (a : Int), .int .i64 (b : Int), .int .i64 c] 43)).alloc (.cells #[.int .i64 0, .int .i64 0, .int .i64 0, .int .i64 0] 43) = w' := ⟨_, rfl⟩
  have z0 : Bx w1 w.heap.size [.int .i64 k, .int .i64 (a : Int), .int .i64 (b : Int), .int .i64 c] := by
    rw [← e1]
    exact (Bx.made_k w rfl #[.int .i64 k, .int .i64 (a : Int), .int .i64 (b : Int), .int .i64 c] 43).on (below_lit _ _)
  have ZR : Own w1 (w.heap.size + 1) 43 [.int .i64 0, .int .i64 0, .int .i64 0, .int .i64 0] := by
    rw [← e1, ← size_lit w (.cells #[.int .i64 k, .int .i64 (a : Int), .int .i64 (b : Int), .int .i64 c] 43) rfl]
    exact Own.made _ 43 [.int .i64 0, .int .i64 0, .int .i64 0, .int .i64 0]
  have BW : Below w.heap.size w w1 := by rw [← e1]; exact below2 _ _ _
  replace h := h.on BW
  obtain ⟨s1, hs1⟩ : ∃ s1, w.heap.size + 1 = s1 := ⟨_, rfl⟩
  have hle : w.heap.size ≤ s1 := by omega
  have hne : w.heap.size ≠ s1 := by omega
  rw [e1]
  clear e1
  rw [hs1] at ZR ⊢
  have z0c0 := z0.2 0 _ rfl; have z0c1 := z0.2 1 _ rfl; have z0c2 := z0.2 2 _ rfl; have z0c3 := z0.2 3 _ rfl; have zr0 : _ = some (Value.int .i64 0) := ZR.cell 0; have zf0 := ZR.free 0; have zr1 : _ = some (Value.int .i64 0) := ZR.cell 1; have zf1 := ZR.free 1; have zr2 : _ = some (Value.int .i64 0) := ZR.cell 2; have zf2 := ZR.free 2; have zr3 : _ = some (Value.int .i64 0) := ZR.cell 3; have zf3 := ZR.free 3
  go_wp2_with (first | (go_at_call 126; (first | with_reducible refine (isConst_as h a ha 0 false c1).mono ?_ | with_reducible refine (isConst_as h b hb 0 true c2).mono ?_); (rintro en w2 ⟨rfl, b⟩; clear z0c0 z0c1 z0c2 z0c3 zr0 zr1 zr2 zr3 zf0 zf1 zf2 zf3; replace h := h.on b; replace z0 := z0.on b; replace ZR := ZR.below b ZR.lt; replace BW := Below.step BW b; clear b; have z0c0 := z0.2 0 _ rfl; have z0c1 := z0.2 1 _ rfl; have z0c2 := z0.2 2 _ rfl; have z0c3 := z0.2 3 _ rfl; have zr0 : _ = some (Value.int .i64 0) := ZR.cell 0; have zf0 := ZR.free 0; have zr1 : _ = some (Value.int .i64 0) := ZR.cell 1; have zf1 := ZR.free 1; have zr2 : _ = some (Value.int .i64 0) := ZR.cell 2; have zf2 := ZR.free 2; have zr3 : _ = some (Value.int .i64 0) := ZR.cell 3; have zf3 := ZR.free 3)))
  have bd : Below w2.heap.size w2 w2.drew := (Below.refl _ _).drew
  have y0c0 := (z0.on bd).2 0 _ rfl; have y0c1 := (z0.on bd).2 1 _ rfl; have y0c2 := (z0.on bd).2 2 _ rfl; have y0c3 := (z0.on bd).2 3 _ rfl
  have YR := ZR.below bd ZR.lt
  have yr0 : _ = some (Value.int .i64 0) := YR.cell 0; have yf0 := YR.free 0; have yr1 : _ = some (Value.int .i64 0) := YR.cell 1; have yf1 := YR.free 1; have yr2 : _ = some (Value.int .i64 0) := YR.cell 2; have yf2 := YR.free 2; have yr3 : _ = some (Value.int .i64 0) := YR.cell 3; have yf3 := YR.free 3
  clear bd h
  go_region
  go_wp2_with fail
  have VR := (((ZR.put 0 (.int .i64 k)).put 1 (.int .i64 (a : Int))).put 2 (.int .i64 (b : Int))).put 3 (.int .i64 c)
  have p0 : _ = some (Value.int .i64 k) := VR.cell 0; have p1 : _ = some (Value.int .i64 (a : Int)) := VR.cell 1; have p2 : _ = some (Value.int .i64 (b : Int)) := VR.cell 2; have p3 : _ = some (Value.int .i64 c) := VR.cell 3
  refine bodyPost_ret (v := .tuple #[.agg #[.int .i64 k, .int .i64 (a : Int), .int .i64 (b : Int), .int .i64 c], .int .i64 (a : Int)]) (by simp [results, Try.results115, go_sem, p0, p1, p2, p3]) rfl ⟨rfl, ((((BW.setCell (p := ⟨s1, 0, none⟩) hle (.int .i64 k)).setCell (p := ⟨s1, 1, none⟩) hle (.int .i64 (a : Int))).setCell (p := ⟨s1, 2, none⟩) hle (.int .i64 (b : Int))).setCell (p := ⟨s1, 3, none⟩) hle (.int .i64 c)).drew⟩
set_option maxHeartbeats 4000000 in
theorem xor_3 {w : World} {p : Nat} {M : List Nd} {S : List Int} (h : Fr w p M S) (k c q : Int) (a b : Nat) (ha : a < M.length) (hb : b < M.length) (c0 : ((a : Int) == (b : Int)) = false) (c1 : isC M (a : Int) 0 = false) (c2 : isC M (b : Int) 0 = false) (c3 : isC M (a : Int) 1 = true) : Calls Try.prog 115 #[.pointer (some ⟨p, 0, none⟩), .agg #[.int .i64 k, .int .i64 (a : Int), .int .i64 (b : Int), .int .i64 c], .int .i64 q] w fun e w' => e = .returned (.tuple #[.agg #[.int .i64 2, .int .i64 (b : Int), .int .i64 0, .int .i64 0], .int .i64 q]) ∧ Below w.heap.size w w' := by
  go_enter Try.func115, Try.ntmps115
  go_upto_region 1 with fail
  obtain ⟨w1, e1⟩ : ∃ w', (w.alloc (.cells #[.int .i64 k, .int .i64 (a : Int), .int .i64 (b : Int), .int .i64 c] 43)).alloc (.cells #[.int .i64 0, .int .i64 0, .int .i64 0, .int .i64 0] 43) = w' := ⟨_, rfl⟩
  have z0 : Bx w1 w.heap.size [.int .i64 k, .int .i64 (a : Int), .int .i64 (b : Int), .int .i64 c] := by
    rw [← e1]
    exact (Bx.made_k w rfl #[.int .i64 k, .int .i64 (a : Int), .int .i64 (b : Int), .int .i64 c] 43).on (below_lit _ _)
  have ZR : Own w1 (w.heap.size + 1) 43 [.int .i64 0, .int .i64 0, .int .i64 0, .int .i64 0] := by
    rw [← e1, ← size_lit w (.cells #[.int .i64 k, .int .i64 (a : Int), .int .i64 (b : Int), .int .i64 c] 43) rfl]
    exact Own.made _ 43 [.int .i64 0, .int .i64 0, .int .i64 0, .int .i64 0]
  have BW : Below w.heap.size w w1 := by rw [← e1]; exact below2 _ _ _
  replace h := h.on BW
  obtain ⟨s1, hs1⟩ : ∃ s1, w.heap.size + 1 = s1 := ⟨_, rfl⟩
  have hle : w.heap.size ≤ s1 := by omega
  have hne : w.heap.size ≠ s1 := by omega
  rw [e1]
  clear e1
  rw [hs1] at ZR ⊢
  have z0c0 := z0.2 0 _ rfl; have z0c1 := z0.2 1 _ rfl; have z0c2 := z0.2 2 _ rfl; have z0c3 := z0.2 3 _ rfl; have zr0 : _ = some (Value.int .i64 0) := ZR.cell 0; have zf0 := ZR.free 0; have zr1 : _ = some (Value.int .i64 0) := ZR.cell 1; have zf1 := ZR.free 1; have zr2 : _ = some (Value.int .i64 0) := ZR.cell 2; have zf2 := ZR.free 2; have zr3 : _ = some (Value.int .i64 0) := ZR.cell 3; have zf3 := ZR.free 3
  go_wp2_with (first | (go_at_call 126; (first | with_reducible refine (isConst_as h a ha 0 false c1).mono ?_ | with_reducible refine (isConst_as h b hb 0 false c2).mono ?_ | with_reducible refine (isConst_as h a ha 1 true c3).mono ?_); (rintro en w2 ⟨rfl, b⟩; clear z0c0 z0c1 z0c2 z0c3 zr0 zr1 zr2 zr3 zf0 zf1 zf2 zf3; replace h := h.on b; replace z0 := z0.on b; replace ZR := ZR.below b ZR.lt; replace BW := Below.step BW b; clear b; have z0c0 := z0.2 0 _ rfl; have z0c1 := z0.2 1 _ rfl; have z0c2 := z0.2 2 _ rfl; have z0c3 := z0.2 3 _ rfl; have zr0 : _ = some (Value.int .i64 0) := ZR.cell 0; have zf0 := ZR.free 0; have zr1 : _ = some (Value.int .i64 0) := ZR.cell 1; have zf1 := ZR.free 1; have zr2 : _ = some (Value.int .i64 0) := ZR.cell 2; have zf2 := ZR.free 2; have zr3 : _ = some (Value.int .i64 0) := ZR.cell 3; have zf3 := ZR.free 3)) | (go_at_call 128; (first | with_reducible refine (not1_as (b : Int) _).mono ?_); (rintro en w2 ⟨rfl, b⟩; clear z0c0 z0c1 z0c2 z0c3 zr0 zr1 zr2 zr3 zf0 zf1 zf2 zf3; replace h := h.on b; replace z0 := z0.on b; replace ZR := ZR.below b ZR.lt; replace BW := Below.step BW b; clear b; have z0c0 := z0.2 0 _ rfl; have z0c1 := z0.2 1 _ rfl; have z0c2 := z0.2 2 _ rfl; have z0c3 := z0.2 3 _ rfl; have zr0 : _ = some (Value.int .i64 0) := ZR.cell 0; have zf0 := ZR.free 0; have zr1 : _ = some (Value.int .i64 0) := ZR.cell 1; have zf1 := ZR.free 1; have zr2 : _ = some (Value.int .i64 0) := ZR.cell 2; have zf2 := ZR.free 2; have zr3 : _ = some (Value.int .i64 0) := ZR.cell 3; have zf3 := ZR.free 3)))
  have VR := (((ZR.put 0 (.int .i64 2)).put 1 (.int .i64 (b : Int))).put 2 (.int .i64 0)).put 3 (.int .i64 0)
  have p0 : _ = some (Value.int .i64 2) := VR.cell 0; have p1 : _ = some (Value.int .i64 (b : Int)) := VR.cell 1; have p2 : _ = some (Value.int .i64 0) := VR.cell 2; have p3 : _ = some (Value.int .i64 0) := VR.cell 3
  refine bodyPost_ret (v := .tuple #[.agg #[.int .i64 2, .int .i64 (b : Int), .int .i64 0, .int .i64 0], .int .i64 q]) (by simp [results, Try.results115, go_sem, p0, p1, p2, p3]) rfl ⟨rfl, ((((BW.setCell (p := ⟨s1, 0, none⟩) hle (.int .i64 2)).setCell (p := ⟨s1, 1, none⟩) hle (.int .i64 (b : Int))).setCell (p := ⟨s1, 2, none⟩) hle (.int .i64 0)).setCell (p := ⟨s1, 3, none⟩) hle (.int .i64 0))⟩
set_option maxHeartbeats 4000000 in
theorem xor_4 {w : World} {p : Nat} {M : List Nd} {S : List Int} (h : Fr w p M S) (k c q : Int) (a b : Nat) (ha : a < M.length) (hb : b < M.length) (c0 : ((a : Int) == (b : Int)) = false) (c1 : isC M (a : Int) 0 = false) (c2 : isC M (b : Int) 0 = false) (c3 : isC M (a : Int) 1 = false) (c4 : isC M (b : Int) 1 = true) : Calls Try.prog 115 #[.pointer (some ⟨p, 0, none⟩), .agg #[.int .i64 k, .int .i64 (a : Int), .int .i64 (b : Int), .int .i64 c], .int .i64 q] w fun e w' => e = .returned (.tuple #[.agg #[.int .i64 2, .int .i64 (a : Int), .int .i64 0, .int .i64 0], .int .i64 q]) ∧ Below w.heap.size w w' := by
  go_enter Try.func115, Try.ntmps115
  go_upto_region 1 with fail
  obtain ⟨w1, e1⟩ : ∃ w', (w.alloc (.cells #[.int .i64 k, .int .i64 (a : Int), .int .i64 (b : Int), .int .i64 c] 43)).alloc (.cells #[.int .i64 0, .int .i64 0, .int .i64 0, .int .i64 0] 43) = w' := ⟨_, rfl⟩
  have z0 : Bx w1 w.heap.size [.int .i64 k, .int .i64 (a : Int), .int .i64 (b : Int), .int .i64 c] := by
    rw [← e1]
    exact (Bx.made_k w rfl #[.int .i64 k, .int .i64 (a : Int), .int .i64 (b : Int), .int .i64 c] 43).on (below_lit _ _)
  have ZR : Own w1 (w.heap.size + 1) 43 [.int .i64 0, .int .i64 0, .int .i64 0, .int .i64 0] := by
    rw [← e1, ← size_lit w (.cells #[.int .i64 k, .int .i64 (a : Int), .int .i64 (b : Int), .int .i64 c] 43) rfl]
    exact Own.made _ 43 [.int .i64 0, .int .i64 0, .int .i64 0, .int .i64 0]
  have BW : Below w.heap.size w w1 := by rw [← e1]; exact below2 _ _ _
  replace h := h.on BW
  obtain ⟨s1, hs1⟩ : ∃ s1, w.heap.size + 1 = s1 := ⟨_, rfl⟩
  have hle : w.heap.size ≤ s1 := by omega
  have hne : w.heap.size ≠ s1 := by omega
  rw [e1]
  clear e1
  rw [hs1] at ZR ⊢
  have z0c0 := z0.2 0 _ rfl; have z0c1 := z0.2 1 _ rfl; have z0c2 := z0.2 2 _ rfl; have z0c3 := z0.2 3 _ rfl; have zr0 : _ = some (Value.int .i64 0) := ZR.cell 0; have zf0 := ZR.free 0; have zr1 : _ = some (Value.int .i64 0) := ZR.cell 1; have zf1 := ZR.free 1; have zr2 : _ = some (Value.int .i64 0) := ZR.cell 2; have zf2 := ZR.free 2; have zr3 : _ = some (Value.int .i64 0) := ZR.cell 3; have zf3 := ZR.free 3
  go_wp2_with (first | (go_at_call 126; (first | with_reducible refine (isConst_as h a ha 0 false c1).mono ?_ | with_reducible refine (isConst_as h b hb 0 false c2).mono ?_ | with_reducible refine (isConst_as h a ha 1 false c3).mono ?_ | with_reducible refine (isConst_as h b hb 1 true c4).mono ?_); (rintro en w2 ⟨rfl, b⟩; clear z0c0 z0c1 z0c2 z0c3 zr0 zr1 zr2 zr3 zf0 zf1 zf2 zf3; replace h := h.on b; replace z0 := z0.on b; replace ZR := ZR.below b ZR.lt; replace BW := Below.step BW b; clear b; have z0c0 := z0.2 0 _ rfl; have z0c1 := z0.2 1 _ rfl; have z0c2 := z0.2 2 _ rfl; have z0c3 := z0.2 3 _ rfl; have zr0 : _ = some (Value.int .i64 0) := ZR.cell 0; have zf0 := ZR.free 0; have zr1 : _ = some (Value.int .i64 0) := ZR.cell 1; have zf1 := ZR.free 1; have zr2 : _ = some (Value.int .i64 0) := ZR.cell 2; have zf2 := ZR.free 2; have zr3 : _ = some (Value.int .i64 0) := ZR.cell 3; have zf3 := ZR.free 3)) | (go_at_call 128; (first | with_reducible refine (not1_as (a : Int) _).mono ?_); (rintro en w2 ⟨rfl, b⟩; clear z0c0 z0c1 z0c2 z0c3 zr0 zr1 zr2 zr3 zf0 zf1 zf2 zf3; replace h := h.on b; replace z0 := z0.on b; replace ZR := ZR.below b ZR.lt; replace BW := Below.step BW b; clear b; have z0c0 := z0.2 0 _ rfl; have z0c1 := z0.2 1 _ rfl; have z0c2 := z0.2 2 _ rfl; have z0c3 := z0.2 3 _ rfl; have zr0 : _ = some (Value.int .i64 0) := ZR.cell 0; have zf0 := ZR.free 0; have zr1 : _ = some (Value.int .i64 0) := ZR.cell 1; have zf1 := ZR.free 1; have zr2 : _ = some (Value.int .i64 0) := ZR.cell 2; have zf2 := ZR.free 2; have zr3 : _ = some (Value.int .i64 0) := ZR.cell 3; have zf3 := ZR.free 3)))
  have VR := (((ZR.put 0 (.int .i64 2)).put 1 (.int .i64 (a : Int))).put 2 (.int .i64 0)).put 3 (.int .i64 0)
  have p0 : _ = some (Value.int .i64 2) := VR.cell 0; have p1 : _ = some (Value.int .i64 (a : Int)) := VR.cell 1; have p2 : _ = some (Value.int .i64 0) := VR.cell 2; have p3 : _ = some (Value.int .i64 0) := VR.cell 3
  refine bodyPost_ret (v := .tuple #[.agg #[.int .i64 2, .int .i64 (a : Int), .int .i64 0, .int .i64 0], .int .i64 q]) (by simp [results, Try.results115, go_sem, p0, p1, p2, p3]) rfl ⟨rfl, ((((BW.setCell (p := ⟨s1, 0, none⟩) hle (.int .i64 2)).setCell (p := ⟨s1, 1, none⟩) hle (.int .i64 (a : Int))).setCell (p := ⟨s1, 2, none⟩) hle (.int .i64 0)).setCell (p := ⟨s1, 3, none⟩) hle (.int .i64 0))⟩
set_option maxHeartbeats 4000000 in
theorem xor_5 {w : World} {p : Nat} {M : List Nd} {S : List Int} (h : Fr w p M S) (k c q : Int) (a b : Nat) (ha : a < M.length) (hb : b < M.length) (c0 : ((a : Int) == (b : Int)) = false) (c1 : isC M (a : Int) 0 = false) (c2 : isC M (b : Int) 0 = false) (c3 : isC M (a : Int) 1 = false) (c4 : isC M (b : Int) 1 = false) (c5 : areT M (a : Int) (b : Int) = true) : Calls Try.prog 115 #[.pointer (some ⟨p, 0, none⟩), .agg #[.int .i64 k, .int .i64 (a : Int), .int .i64 (b : Int), .int .i64 c], .int .i64 q] w fun e w' => e = .returned (.tuple #[.agg #[.int .i64 0, .int .i64 1, .int .i64 0, .int .i64 0], .int .i64 q]) ∧ Below w.heap.size w w' := by
  go_enter Try.func115, Try.ntmps115
  go_upto_region 1 with fail
  obtain ⟨w1, e1⟩ : ∃ w', (w.alloc (.cells #[.int .i64 k, .int .i64 (a : Int), .int .i64 (b : Int), .int .i64 c] 43)).alloc (.cells #[.int .i64 0, .int .i64 0, .int .i64 0, .int .i64 0] 43) = w' := ⟨_, rfl⟩
  have z0 : Bx w1 w.heap.size [.int .i64 k, .int .i64 (a : Int), .int .i64 (b : Int), .int .i64 c] := by
    rw [← e1]
    exact (Bx.made_k w rfl #[.int .i64 k, .int .i64 (a : Int), .int .i64 (b : Int), .int .i64 c] 43).on (below_lit _ _)
  have ZR : Own w1 (w.heap.size + 1) 43 [.int .i64 0, .int .i64 0, .int .i64 0, .int .i64 0] := by
    rw [← e1, ← size_lit w (.cells #[.int .i64 k, .int .i64 (a : Int), .int .i64 (b : Int), .int .i64 c] 43) rfl]
    exact Own.made _ 43 [.int .i64 0, .int .i64 0, .int .i64 0, .int .i64 0]
  have BW : Below w.heap.size w w1 := by rw [← e1]; exact below2 _ _ _
  replace h := h.on BW
  obtain ⟨s1, hs1⟩ : ∃ s1, w.heap.size + 1 = s1 := ⟨_, rfl⟩
  have hle : w.heap.size ≤ s1 := by omega
  have hne : w.heap.size ≠ s1 := by omega
  rw [e1]
  clear e1
  rw [hs1] at ZR ⊢
  have z0c0 := z0.2 0 _ rfl; have z0c1 := z0.2 1 _ rfl; have z0c2 := z0.2 2 _ rfl; have z0c3 := z0.2 3 _ rfl; have zr0 : _ = some (Value.int .i64 0) := ZR.cell 0; have zf0 := ZR.free 0; have zr1 : _ = some (Value.int .i64 0) := ZR.cell 1; have zf1 := ZR.free 1; have zr2 : _ = some (Value.int .i64 0) := ZR.cell 2; have zf2 := ZR.free 2; have zr3 : _ = some (Value.int .i64 0) := ZR.cell 3; have zf3 := ZR.free 3
  go_wp2_with (first | (go_at_call 126; (first | with_reducible refine (isConst_as h a ha 0 false c1).mono ?_ | with_reducible refine (isConst_as h b hb 0 false c2).mono ?_ | with_reducible refine (isConst_as h a ha 1 false c3).mono ?_ | with_reducible refine (isConst_as h b hb 1 false c4).mono ?_); (rintro en w2 ⟨rfl, b⟩; clear z0c0 z0c1 z0c2 z0c3 zr0 zr1 zr2 zr3 zf0 zf1 zf2 zf3; replace h := h.on b; replace z0 := z0.on b; replace ZR := ZR.below b ZR.lt; replace BW := Below.step BW b; clear b; have z0c0 := z0.2 0 _ rfl; have z0c1 := z0.2 1 _ rfl; have z0c2 := z0.2 2 _ rfl; have z0c3 := z0.2 3 _ rfl; have zr0 : _ = some (Value.int .i64 0) := ZR.cell 0; have zf0 := ZR.free 0; have zr1 : _ = some (Value.int .i64 0) := ZR.cell 1; have zf1 := ZR.free 1; have zr2 : _ = some (Value.int .i64 0) := ZR.cell 2; have zf2 := ZR.free 2; have zr3 : _ = some (Value.int .i64 0) := ZR.cell 3; have zf3 := ZR.free 3)) | (go_at_call 127; (first | with_reducible refine (areTurned_as h a b ha hb true c5).mono ?_); (rintro en w2 ⟨rfl, b⟩; clear z0c0 z0c1 z0c2 z0c3 zr0 zr1 zr2 zr3 zf0 zf1 zf2 zf3; replace h := h.on b; replace z0 := z0.on b; replace ZR := ZR.below b ZR.lt; replace BW := Below.step BW b; clear b; have z0c0 := z0.2 0 _ rfl; have z0c1 := z0.2 1 _ rfl; have z0c2 := z0.2 2 _ rfl; have z0c3 := z0.2 3 _ rfl; have zr0 : _ = some (Value.int .i64 0) := ZR.cell 0; have zf0 := ZR.free 0; have zr1 : _ = some (Value.int .i64 0) := ZR.cell 1; have zf1 := ZR.free 1; have zr2 : _ = some (Value.int .i64 0) := ZR.cell 2; have zf2 := ZR.free 2; have zr3 : _ = some (Value.int .i64 0) := ZR.cell 3; have zf3 := ZR.free 3)) | (go_at_call 125; (first | with_reducible refine (constant_as 1 _).mono ?_); (rintro en w2 ⟨rfl, b⟩; clear z0c0 z0c1 z0c2 z0c3 zr0 zr1 zr2 zr3 zf0 zf1 zf2 zf3; replace h := h.on b; replace z0 := z0.on b; replace ZR := ZR.below b ZR.lt; replace BW := Below.step BW b; clear b; have z0c0 := z0.2 0 _ rfl; have z0c1 := z0.2 1 _ rfl; have z0c2 := z0.2 2 _ rfl; have z0c3 := z0.2 3 _ rfl; have zr0 : _ = some (Value.int .i64 0) := ZR.cell 0; have zf0 := ZR.free 0; have zr1 : _ = some (Value.int .i64 0) := ZR.cell 1; have zf1 := ZR.free 1; have zr2 : _ = some (Value.int .i64 0) := ZR.cell 2; have zf2 := ZR.free 2; have zr3 : _ = some (Value.int .i64 0) := ZR.cell 3; have zf3 := ZR.free 3)))
  have VR := (((ZR.put 0 (.int .i64 0)).put 1 (.int .i64 1)).put 2 (.int .i64 0)).put 3 (.int .i64 0)
  have p0 : _ = some (Value.int .i64 0) := VR.cell 0; have p1 : _ = some (Value.int .i64 1) := VR.cell 1; have p2 : _ = some (Value.int .i64 0) := VR.cell 2; have p3 : _ = some (Value.int .i64 0) := VR.cell 3
  refine bodyPost_ret (v := .tuple #[.agg #[.int .i64 0, .int .i64 1, .int .i64 0, .int .i64 0], .int .i64 q]) (by simp [results, Try.results115, go_sem, p0, p1, p2, p3]) rfl ⟨rfl, ((((BW.setCell (p := ⟨s1, 0, none⟩) hle (.int .i64 0)).setCell (p := ⟨s1, 1, none⟩) hle (.int .i64 1)).setCell (p := ⟨s1, 2, none⟩) hle (.int .i64 0)).setCell (p := ⟨s1, 3, none⟩) hle (.int .i64 0))⟩
set_option maxHeartbeats 4000000 in
theorem xor_6 {w : World} {p : Nat} {M : List Nd} {S : List Int} (h : Fr w p M S) (k c q : Int) (a b : Nat) (ha : a < M.length) (hb : b < M.length) (c0 : ((a : Int) == (b : Int)) = false) (c1 : isC M (a : Int) 0 = false) (c2 : isC M (b : Int) 0 = false) (c3 : isC M (a : Int) 1 = false) (c4 : isC M (b : Int) 1 = false) (c5 : areT M (a : Int) (b : Int) = false) : Calls Try.prog 115 #[.pointer (some ⟨p, 0, none⟩), .agg #[.int .i64 k, .int .i64 (a : Int), .int .i64 (b : Int), .int .i64 c], .int .i64 q] w fun e w' => e = .returned (.tuple #[.agg #[.int .i64 k, .int .i64 (a : Int), .int .i64 (b : Int), .int .i64 c], .int .i64 q]) ∧ Below w.heap.size w w' := by
  go_enter Try.func115, Try.ntmps115
  go_upto_region 1 with fail
  obtain ⟨w1, e1⟩ : ∃ w', (w.alloc (.cells #[.int .i64 k, .int .i64 (a : Int), .int .i64 (b : Int), .int .i64 c] 43)).alloc (.cells #[.int .i64 0, .int .i64 0, .int .i64 0, .int .i64 0] 43) = w' := ⟨_, rfl⟩
  have z0 : Bx w1 w.heap.size [.int .i64 k, .int .i64 (a : Int), .int .i64 (b : Int), .int .i64 c] := by
    rw [← e1]
    exact (Bx.made_k w rfl #[.int .i64 k, .int .i64 (a : Int), .int .i64 (b : Int), .int .i64 c] 43).on (below_lit _ _)
  have ZR : Own w1 (w.heap.size + 1) 43 [.int .i64 0, .int .i64 0, .int .i64 0, .int .i64 0] := by
    rw [← e1, ← size_lit w (.cells #[.int .i64 k, .int .i64 (a : Int), .int .i64 (b : Int), .int .i64 c] 43) rfl]
    exact Own.made _ 43 [.int .i64 0, .int .i64 0, .int .i64 0, .int .i64 0]
  have BW : Below w.heap.size w w1 := by rw [← e1]; exact below2 _ _ _
  replace h := h.on BW
  obtain ⟨s1, hs1⟩ : ∃ s1, w.heap.size + 1 = s1 := ⟨_, rfl⟩
  have hle : w.heap.size ≤ s1 := by omega
  have hne : w.heap.size ≠ s1 := by omega
  rw [e1]
  clear e1
  rw [hs1] at ZR ⊢
  have z0c0 := z0.2 0 _ rfl; have z0c1 := z0.2 1 _ rfl; have z0c2 := z0.2 2 _ rfl; have z0c3 := z0.2 3 _ rfl; have zr0 : _ = some (Value.int .i64 0) := ZR.cell 0; have zf0 := ZR.free 0; have zr1 : _ = some (Value.int .i64 0) := ZR.cell 1; have zf1 := ZR.free 1; have zr2 : _ = some (Value.int .i64 0) := ZR.cell 2; have zf2 := ZR.free 2; have zr3 : _ = some (Value.int .i64 0) := ZR.cell 3; have zf3 := ZR.free 3
  go_wp2_with (first | (go_at_call 126; (first | with_reducible refine (isConst_as h a ha 0 false c1).mono ?_ | with_reducible refine (isConst_as h b hb 0 false c2).mono ?_ | with_reducible refine (isConst_as h a ha 1 false c3).mono ?_ | with_reducible refine (isConst_as h b hb 1 false c4).mono ?_); (rintro en w2 ⟨rfl, b⟩; clear z0c0 z0c1 z0c2 z0c3 zr0 zr1 zr2 zr3 zf0 zf1 zf2 zf3; replace h := h.on b; replace z0 := z0.on b; replace ZR := ZR.below b ZR.lt; replace BW := Below.step BW b; clear b; have z0c0 := z0.2 0 _ rfl; have z0c1 := z0.2 1 _ rfl; have z0c2 := z0.2 2 _ rfl; have z0c3 := z0.2 3 _ rfl; have zr0 : _ = some (Value.int .i64 0) := ZR.cell 0; have zf0 := ZR.free 0; have zr1 : _ = some (Value.int .i64 0) := ZR.cell 1; have zf1 := ZR.free 1; have zr2 : _ = some (Value.int .i64 0) := ZR.cell 2; have zf2 := ZR.free 2; have zr3 : _ = some (Value.int .i64 0) := ZR.cell 3; have zf3 := ZR.free 3)) | (go_at_call 127; (first | with_reducible refine (areTurned_as h a b ha hb false c5).mono ?_); (rintro en w2 ⟨rfl, b⟩; clear z0c0 z0c1 z0c2 z0c3 zr0 zr1 zr2 zr3 zf0 zf1 zf2 zf3; replace h := h.on b; replace z0 := z0.on b; replace ZR := ZR.below b ZR.lt; replace BW := Below.step BW b; clear b; have z0c0 := z0.2 0 _ rfl; have z0c1 := z0.2 1 _ rfl; have z0c2 := z0.2 2 _ rfl; have z0c3 := z0.2 3 _ rfl; have zr0 : _ = some (Value.int .i64 0) := ZR.cell 0; have zf0 := ZR.free 0; have zr1 : _ = some (Value.int .i64 0) := ZR.cell 1; have zf1 := ZR.free 1; have zr2 : _ = some (Value.int .i64 0) := ZR.cell 2; have zf2 := ZR.free 2; have zr3 : _ = some (Value.int .i64 0) := ZR.cell 3; have zf3 := ZR.free 3)))
  have VR := (((ZR.put 0 (.int .i64 k)).put 1 (.int .i64 (a : Int))).put 2 (.int .i64 (b : Int))).put 3 (.int .i64 c)
  have p0 : _ = some (Value.int .i64 k) := VR.cell 0; have p1 : _ = some (Value.int .i64 (a : Int)) := VR.cell 1; have p2 : _ = some (Value.int .i64 (b : Int)) := VR.cell 2; have p3 : _ = some (Value.int .i64 c) := VR.cell 3
  refine bodyPost_ret (v := .tuple #[.agg #[.int .i64 k, .int .i64 (a : Int), .int .i64 (b : Int), .int .i64 c], .int .i64 q]) (by simp [results, Try.results115, go_sem, p0, p1, p2, p3]) rfl ⟨rfl, ((((BW.setCell (p := ⟨s1, 0, none⟩) hle (.int .i64 k)).setCell (p := ⟨s1, 1, none⟩) hle (.int .i64 (a : Int))).setCell (p := ⟨s1, 2, none⟩) hle (.int .i64 (b : Int))).setCell (p := ⟨s1, 3, none⟩) hle (.int .i64 c))⟩
theorem foldxor_as {w : World} {p : Nat} {M : List Nd} {S : List Int} (h : Fr w p M S) (k c q : Int) (a b : Nat) (ha : a < M.length) (hb : b < M.length) : Calls Try.prog 115 #[.pointer (some ⟨p, 0, none⟩), .agg #[.int .i64 k, .int .i64 (a : Int), .int .i64 (b : Int), .int .i64 c], .int .i64 q] w fun e w' => e = .returned (.tuple #[ndA (xorL M ⟨k, (a : Int), (b : Int), c⟩ q).1, .int .i64 (xorL M ⟨k, (a : Int), (b : Int), c⟩ q).2]) ∧ Below w.heap.size w w' := by
  cases c0 : ((a : Int) == (b : Int))
  · cases c1 : isC M (a : Int) 0
    · cases c2 : isC M (b : Int) 0
      · cases c3 : isC M (a : Int) 1
        · cases c4 : isC M (b : Int) 1
          · cases c5 : areT M (a : Int) (b : Int)
            · rw [show xorL M ⟨k, (a : Int), (b : Int), c⟩ q = (⟨k, (a : Int), (b : Int), c⟩, q) from by unfold xorL; simp [*] <;> rfl]
              exact xor_6 h k c q a b ha hb c0 c1 c2 c3 c4 c5
            · rw [show xorL M ⟨k, (a : Int), (b : Int), c⟩ q = (⟨0, 1, 0, 0⟩, q) from by unfold xorL; simp [*] <;> rfl]
              exact xor_5 h k c q a b ha hb c0 c1 c2 c3 c4 c5
          · rw [show xorL M ⟨k, (a : Int), (b : Int), c⟩ q = (⟨2, (a : Int), 0, 0⟩, q) from by unfold xorL; simp [*] <;> rfl]
            exact xor_4 h k c q a b ha hb c0 c1 c2 c3 c4
        · rw [show xorL M ⟨k, (a : Int), (b : Int), c⟩ q = (⟨2, (b : Int), 0, 0⟩, q) from by unfold xorL; simp [*] <;> rfl]
          exact xor_3 h k c q a b ha hb c0 c1 c2 c3
      · rw [show xorL M ⟨k, (a : Int), (b : Int), c⟩ q = (⟨k, (a : Int), (b : Int), c⟩, (a : Int)) from by unfold xorL; simp [*] <;> rfl]
        exact xor_2 h k c q a b ha hb c0 c1 c2
    · rw [show xorL M ⟨k, (a : Int), (b : Int), c⟩ q = (⟨k, (a : Int), (b : Int), c⟩, (b : Int)) from by unfold xorL; simp [*] <;> rfl]
      exact xor_1 h k c q a b ha hb c0 c1
  · rw [show xorL M ⟨k, (a : Int), (b : Int), c⟩ q = (⟨0, 0, 0, 0⟩, q) from by unfold xorL; simp [*] <;> rfl]
    exact xor_0 h k c q a b ha hb c0
set_option maxHeartbeats 4000000 in
theorem mux_0 {w : World} {p : Nat} {M : List Nd} {S : List Int} (h : Fr w p M S) (k q : Int) (a b c : Nat) (ha : a < M.length) (hb : b < M.length) (hc : c < M.length) (c0 : isC M (c : Int) 1 = true) : Calls Try.prog 116 #[.pointer (some ⟨p, 0, none⟩), .agg #[.int .i64 k, .int .i64 (a : Int), .int .i64 (b : Int), .int .i64 (c : Int)], .int .i64 q] w fun e w' => e = .returned (.tuple #[.agg #[.int .i64 k, .int .i64 (a : Int), .int .i64 (b : Int), .int .i64 (c : Int)], .int .i64 (b : Int)]) ∧ Below w.heap.size w w' := by
  go_enter Try.func116, Try.ntmps116
  go_upto_region 1 with fail
  obtain ⟨w1, e1⟩ : ∃ w', (w.alloc (.cells #[.int .i64 k, .int .i64 (a : Int), .int .i64 (b : Int), .int .i64 (c : Int)] 43)).alloc (.cells #[.int .i64 0, .int .i64 0, .int .i64 0, .int .i64 0] 43) = w' := ⟨_, rfl⟩
  have z0 : Bx w1 w.heap.size [.int .i64 k, .int .i64 (a : Int), .int .i64 (b : Int), .int .i64 (c : Int)] := by
    rw [← e1]
    exact (Bx.made_k w rfl #[.int .i64 k, .int .i64 (a : Int), .int .i64 (b : Int), .int .i64 (c : Int)] 43).on (below_lit _ _)
  have ZR : Own w1 (w.heap.size + 1) 43 [.int .i64 0, .int .i64 0, .int .i64 0, .int .i64 0] := by
    rw [← e1, ← size_lit w (.cells #[.int .i64 k, .int .i64 (a : Int), .int .i64 (b : Int), .int .i64 (c : Int)] 43) rfl]
    exact Own.made _ 43 [.int .i64 0, .int .i64 0, .int .i64 0, .int .i64 0]
  have BW : Below w.heap.size w w1 := by rw [← e1]; exact below2 _ _ _
  replace h := h.on BW
  obtain ⟨s1, hs1⟩ : ∃ s1, w.heap.size + 1 = s1 := ⟨_, rfl⟩
  have hle : w.heap.size ≤ s1 := by omega
  have hne : w.heap.size ≠ s1 := by omega
  rw [e1]
  clear e1
  rw [hs1] at ZR ⊢
  have z0c0 := z0.2 0 _ rfl; have z0c1 := z0.2 1 _ rfl; have z0c2 := z0.2 2 _ rfl; have z0c3 := z0.2 3 _ rfl; have zr0 : _ = some (Value.int .i64 0) := ZR.cell 0; have zf0 := ZR.free 0; have zr1 : _ = some (Value.int .i64 0) := ZR.cell 1; have zf1 := ZR.free 1; have zr2 : _ = some (Value.int .i64 0) := ZR.cell 2; have zf2 := ZR.free 2; have zr3 : _ = some (Value.int .i64 0) := ZR.cell 3; have zf3 := ZR.free 3
  go_wp2_with (first | (go_at_call 126; (first | with_reducible refine (isConst_as h c hc 1 true c0).mono ?_); (rintro en w2 ⟨rfl, b⟩; clear z0c0 z0c1 z0c2 z0c3 zr0 zr1 zr2 zr3 zf0 zf1 zf2 zf3; replace h := h.on b; replace z0 := z0.on b; replace ZR := ZR.below b ZR.lt; replace BW := Below.step BW b; clear b; have z0c0 := z0.2 0 _ rfl; have z0c1 := z0.2 1 _ rfl; have z0c2 := z0.2 2 _ rfl; have z0c3 := z0.2 3 _ rfl; have zr0 : _ = some (Value.int .i64 0) := ZR.cell 0; have zf0 := ZR.free 0; have zr1 : _ = some (Value.int .i64 0) := ZR.cell 1; have zf1 := ZR.free 1; have zr2 : _ = some (Value.int .i64 0) := ZR.cell 2; have zf2 := ZR.free 2; have zr3 : _ = some (Value.int .i64 0) := ZR.cell 3; have zf3 := ZR.free 3)))
  have bd : Below w2.heap.size w2 w2.drew := (Below.refl _ _).drew
  have y0c0 := (z0.on bd).2 0 _ rfl; have y0c1 := (z0.on bd).2 1 _ rfl; have y0c2 := (z0.on bd).2 2 _ rfl; have y0c3 := (z0.on bd).2 3 _ rfl
  have YR := ZR.below bd ZR.lt
  have yr0 : _ = some (Value.int .i64 0) := YR.cell 0; have yf0 := YR.free 0; have yr1 : _ = some (Value.int .i64 0) := YR.cell 1; have yf1 := YR.free 1; have yr2 : _ = some (Value.int .i64 0) := YR.cell 2; have yf2 := YR.free 2; have yr3 : _ = some (Value.int .i64 0) := YR.cell 3; have yf3 := YR.free 3
  clear bd h
  go_region
  go_wp2_with fail
  have VR := (((ZR.put 0 (.int .i64 k)).put 1 (.int .i64 (a : Int))).put 2 (.int .i64 (b : Int))).put 3 (.int .i64 (c : Int))
  have p0 : _ = some (Value.int .i64 k) := VR.cell 0; have p1 : _ = some (Value.int .i64 (a : Int)) := VR.cell 1; have p2 : _ = some (Value.int .i64 (b : Int)) := VR.cell 2; have p3 : _ = some (Value.int .i64 (c : Int)) := VR.cell 3
  refine bodyPost_ret (v := .tuple #[.agg #[.int .i64 k, .int .i64 (a : Int), .int .i64 (b : Int), .int .i64 (c : Int)], .int .i64 (b : Int)]) (by simp [results, Try.results116, go_sem, p0, p1, p2, p3]) rfl ⟨rfl, ((((BW.setCell (p := ⟨s1, 0, none⟩) hle (.int .i64 k)).setCell (p := ⟨s1, 1, none⟩) hle (.int .i64 (a : Int))).setCell (p := ⟨s1, 2, none⟩) hle (.int .i64 (b : Int))).setCell (p := ⟨s1, 3, none⟩) hle (.int .i64 (c : Int))).drew⟩
set_option maxHeartbeats 4000000 in
theorem mux_1 {w : World} {p : Nat} {M : List Nd} {S : List Int} (h : Fr w p M S) (k q : Int) (a b c : Nat) (ha : a < M.length) (hb : b < M.length) (hc : c < M.length) (c0 : isC M (c : Int) 1 = false) (c1 : isC M (c : Int) 0 = true) : Calls Try.prog 116 #[.pointer (some ⟨p, 0, none⟩), .agg #[.int .i64 k, .int .i64 (a : Int), .int .i64 (b : Int), .int .i64 (c : Int)], .int .i64 q] w fun e w' => e = .returned (.tuple #[.agg #[.int .i64 k, .int .i64 (a : Int), .int .i64 (b : Int), .int .i64 (c : Int)], .int .i64 (a : Int)]) ∧ Below w.heap.size w w' := by
  go_enter Try.func116, Try.ntmps116
  go_upto_region 1 with fail
  obtain ⟨w1, e1⟩ : ∃ w', (w.alloc (.cells #[.int .i64 k, .int .i64 (a : Int), .int .i64 (b : Int), .int .i64 (c : Int)] 43)).alloc (.cells #[.int .i64 0, .int .i64 0, .int .i64 0, .int .i64 0] 43) = w' := ⟨_, rfl⟩
  have z0 : Bx w1 w.heap.size [.int .i64 k, .int .i64 (a : Int), .int .i64 (b : Int), .int .i64 (c : Int)] := by
    rw [← e1]
    exact (Bx.made_k w rfl #[.int .i64 k, .int .i64 (a : Int), .int .i64 (b : Int), .int .i64 (c : Int)] 43).on (below_lit _ _)
  have ZR : Own w1 (w.heap.size + 1) 43 [.int .i64 0, .int .i64 0, .int .i64 0, .int .i64 0] := by
    rw [← e1, ← size_lit w (.cells #[.int .i64 k, .int .i64 (a : Int), .int .i64 (b : Int), .int .i64 (c : Int)] 43) rfl]
    exact Own.made _ 43 [.int .i64 0, .int .i64 0, .int .i64 0, .int .i64 0]
  have BW : Below w.heap.size w w1 := by rw [← e1]; exact below2 _ _ _
  replace h := h.on BW
  obtain ⟨s1, hs1⟩ : ∃ s1, w.heap.size + 1 = s1 := ⟨_, rfl⟩
  have hle : w.heap.size ≤ s1 := by omega
  have hne : w.heap.size ≠ s1 := by omega
  rw [e1]
  clear e1
  rw [hs1] at ZR ⊢
  have z0c0 := z0.2 0 _ rfl; have z0c1 := z0.2 1 _ rfl; have z0c2 := z0.2 2 _ rfl; have z0c3 := z0.2 3 _ rfl; have zr0 : _ = some (Value.int .i64 0) := ZR.cell 0; have zf0 := ZR.free 0; have zr1 : _ = some (Value.int .i64 0) := ZR.cell 1; have zf1 := ZR.free 1; have zr2 : _ = some (Value.int .i64 0) := ZR.cell 2; have zf2 := ZR.free 2; have zr3 : _ = some (Value.int .i64 0) := ZR.cell 3; have zf3 := ZR.free 3
  go_wp2_with (first | (go_at_call 126; (first | with_reducible refine (isConst_as h c hc 1 false c0).mono ?_ | with_reducible refine (isConst_as h c hc 0 true c1).mono ?_); (rintro en w2 ⟨rfl, b⟩; clear z0c0 z0c1 z0c2 z0c3 zr0 zr1 zr2 zr3 zf0 zf1 zf2 zf3; replace h := h.on b; replace z0 := z0.on b; replace ZR := ZR.below b ZR.lt; replace BW := Below.step BW b; clear b; have z0c0 := z0.2 0 _ rfl; have z0c1 := z0.2 1 _ rfl; have z0c2 := z0.2 2 _ rfl; have z0c3 := z0.2 3 _ rfl; have zr0 : _ = some (Value.int .i64 0) := ZR.cell 0; have zf0 := ZR.free 0; have zr1 : _ = some (Value.int .i64 0) := ZR.cell 1; have zf1 := ZR.free 1; have zr2 : _ = some (Value.int .i64 0) := ZR.cell 2; have zf2 := ZR.free 2; have zr3 : _ = some (Value.int .i64 0) := ZR.cell 3; have zf3 := ZR.free 3)))
  have bd : Below w2.heap.size w2 w2.drew := (Below.refl _ _).drew
  have y0c0 := (z0.on bd).2 0 _ rfl; have y0c1 := (z0.on bd).2 1 _ rfl; have y0c2 := (z0.on bd).2 2 _ rfl; have y0c3 := (z0.on bd).2 3 _ rfl
  have YR := ZR.below bd ZR.lt
  have yr0 : _ = some (Value.int .i64 0) := YR.cell 0; have yf0 := YR.free 0; have yr1 : _ = some (Value.int .i64 0) := YR.cell 1; have yf1 := YR.free 1; have yr2 : _ = some (Value.int .i64 0) := YR.cell 2; have yf2 := YR.free 2; have yr3 : _ = some (Value.int .i64 0) := YR.cell 3; have yf3 := YR.free 3
  clear bd h
  go_region
  go_wp2_with fail
  have VR := (((ZR.put 0 (.int .i64 k)).put 1 (.int .i64 (a : Int))).put 2 (.int .i64 (b : Int))).put 3 (.int .i64 (c : Int))
  have p0 : _ = some (Value.int .i64 k) := VR.cell 0; have p1 : _ = some (Value.int .i64 (a : Int)) := VR.cell 1; have p2 : _ = some (Value.int .i64 (b : Int)) := VR.cell 2; have p3 : _ = some (Value.int .i64 (c : Int)) := VR.cell 3
  refine bodyPost_ret (v := .tuple #[.agg #[.int .i64 k, .int .i64 (a : Int), .int .i64 (b : Int), .int .i64 (c : Int)], .int .i64 (a : Int)]) (by simp [results, Try.results116, go_sem, p0, p1, p2, p3]) rfl ⟨rfl, ((((BW.setCell (p := ⟨s1, 0, none⟩) hle (.int .i64 k)).setCell (p := ⟨s1, 1, none⟩) hle (.int .i64 (a : Int))).setCell (p := ⟨s1, 2, none⟩) hle (.int .i64 (b : Int))).setCell (p := ⟨s1, 3, none⟩) hle (.int .i64 (c : Int))).drew⟩
set_option maxHeartbeats 4000000 in
theorem mux_2 {w : World} {p : Nat} {M : List Nd} {S : List Int} (h : Fr w p M S) (k q : Int) (a b c : Nat) (ha : a < M.length) (hb : b < M.length) (hc : c < M.length) (c0 : isC M (c : Int) 1 = false) (c1 : isC M (c : Int) 0 = false) (c2 : ((a : Int) == (b : Int)) = true) : Calls Try.prog 116 #[.pointer (some ⟨p, 0, none⟩), .agg #[.int .i64 k, .int .i64 (a : Int), .int .i64 (b : Int), .int .i64 (c : Int)], .int .i64 q] w fun e w' => e = .returned (.tuple #[.agg #[.int .i64 k, .int .i64 (a : Int), .int .i64 (b : Int), .int .i64 (c : Int)], .int .i64 (a : Int)]) ∧ Below w.heap.size w w' := by
  go_enter Try.func116, Try.ntmps116
  go_upto_region 1 with fail
  obtain ⟨w1, e1⟩ : ∃ w', (w.alloc (.cells #[.int .i64 k, .int .i64 (a : Int), .int .i64 (b : Int), .int .i64 (c : Int)] 43)).alloc (.cells #[.int .i64 0, .int .i64 0, .int .i64 0, .int .i64 0] 43) = w' := ⟨_, rfl⟩
  have z0 : Bx w1 w.heap.size [.int .i64 k, .int .i64 (a : Int), .int .i64 (b : Int), .int .i64 (c : Int)] := by
    rw [← e1]
    exact (Bx.made_k w rfl #[.int .i64 k, .int .i64 (a : Int), .int .i64 (b : Int), .int .i64 (c : Int)] 43).on (below_lit _ _)
  have ZR : Own w1 (w.heap.size + 1) 43 [.int .i64 0, .int .i64 0, .int .i64 0, .int .i64 0] := by
    rw [← e1, ← size_lit w (.cells #[.int .i64 k, .int .i64 (a : Int), .int .i64 (b : Int), .int .i64 (c : Int)] 43) rfl]
    exact Own.made _ 43 [.int .i64 0, .int .i64 0, .int .i64 0, .int .i64 0]
  have BW : Below w.heap.size w w1 := by rw [← e1]; exact below2 _ _ _
  replace h := h.on BW
  obtain ⟨s1, hs1⟩ : ∃ s1, w.heap.size + 1 = s1 := ⟨_, rfl⟩
  have hle : w.heap.size ≤ s1 := by omega
  have hne : w.heap.size ≠ s1 := by omega
  rw [e1]
  clear e1
  rw [hs1] at ZR ⊢
  have z0c0 := z0.2 0 _ rfl; have z0c1 := z0.2 1 _ rfl; have z0c2 := z0.2 2 _ rfl; have z0c3 := z0.2 3 _ rfl; have zr0 : _ = some (Value.int .i64 0) := ZR.cell 0; have zf0 := ZR.free 0; have zr1 : _ = some (Value.int .i64 0) := ZR.cell 1; have zf1 := ZR.free 1; have zr2 : _ = some (Value.int .i64 0) := ZR.cell 2; have zf2 := ZR.free 2; have zr3 : _ = some (Value.int .i64 0) := ZR.cell 3; have zf3 := ZR.free 3
  go_wp2_with (first | (go_at_call 126; (first | with_reducible refine (isConst_as h c hc 1 false c0).mono ?_ | with_reducible refine (isConst_as h c hc 0 false c1).mono ?_); (rintro en w2 ⟨rfl, b⟩; clear z0c0 z0c1 z0c2 z0c3 zr0 zr1 zr2 zr3 zf0 zf1 zf2 zf3; replace h := h.on b; replace z0 := z0.on b; replace ZR := ZR.below b ZR.lt; replace BW := Below.step BW b; clear b; have z0c0 := z0.2 0 _ rfl; have z0c1 := z0.2 1 _ rfl; have z0c2 := z0.2 2 _ rfl; have z0c3 := z0.2 3 _ rfl; have zr0 : _ = some (Value.int .i64 0) := ZR.cell 0; have zf0 := ZR.free 0; have zr1 : _ = some (Value.int .i64 0) := ZR.cell 1; have zf1 := ZR.free 1; have zr2 : _ = some (Value.int .i64 0) := ZR.cell 2; have zf2 := ZR.free 2; have zr3 : _ = some (Value.int .i64 0) := ZR.cell 3; have zf3 := ZR.free 3)))
  have bd : Below w2.heap.size w2 w2.drew := (Below.refl _ _).drew
  have y0c0 := (z0.on bd).2 0 _ rfl; have y0c1 := (z0.on bd).2 1 _ rfl; have y0c2 := (z0.on bd).2 2 _ rfl; have y0c3 := (z0.on bd).2 3 _ rfl
  have YR := ZR.below bd ZR.lt
  have yr0 : _ = some (Value.int .i64 0) := YR.cell 0; have yf0 := YR.free 0; have yr1 : _ = some (Value.int .i64 0) := YR.cell 1; have yf1 := YR.free 1; have yr2 : _ = some (Value.int .i64 0) := YR.cell 2; have yf2 := YR.free 2; have yr3 : _ = some (Value.int .i64 0) := YR.cell 3; have yf3 := YR.free 3
  clear bd h
  go_region
  go_wp2_with fail
  have VR := (((ZR.put 0 (.int .i64 k)).put 1 (.int .i64 (a : Int))).put 2 (.int .i64 (b : Int))).put 3 (.int .i64 (c : Int))
  have p0 : _ = some (Value.int .i64 k) := VR.cell 0; have p1 : _ = some (Value.int .i64 (a : Int)) := VR.cell 1; have p2 : _ = some (Value.int .i64 (b : Int)) := VR.cell 2; have p3 : _ = some (Value.int .i64 (c : Int)) := VR.cell 3
  refine bodyPost_ret (v := .tuple #[.agg #[.int .i64 k, .int .i64 (a : Int), .int .i64 (b : Int), .int .i64 (c : Int)], .int .i64 (a : Int)]) (by simp [results, Try.results116, go_sem, p0, p1, p2, p3]) rfl ⟨rfl, ((((BW.setCell (p := ⟨s1, 0, none⟩) hle (.int .i64 k)).setCell (p := ⟨s1, 1, none⟩) hle (.int .i64 (a : Int))).setCell (p := ⟨s1, 2, none⟩) hle (.int .i64 (b : Int))).setCell (p := ⟨s1, 3, none⟩) hle (.int .i64 (c : Int))).drew⟩
set_option maxHeartbeats 4000000 in
theorem mux_3 {w : World} {p : Nat} {M : List Nd} {S : List Int} (h : Fr w p M S) (k q : Int) (a b c : Nat) (ha : a < M.length) (hb : b < M.length) (hc : c < M.length) (c0 : isC M (c : Int) 1 = false) (c1 : isC M (c : Int) 0 = false) (c2 : ((a : Int) == (b : Int)) = false) (c3 : isC M (a : Int) 0 = true) (c4 : isC M (b : Int) 1 = true) : Calls Try.prog 116 #[.pointer (some ⟨p, 0, none⟩), .agg #[.int .i64 k, .int .i64 (a : Int), .int .i64 (b : Int), .int .i64 (c : Int)], .int .i64 q] w fun e w' => e = .returned (.tuple #[.agg #[.int .i64 k, .int .i64 (a : Int), .int .i64 (b : Int), .int .i64 (c : Int)], .int .i64 (c : Int)]) ∧ Below w.heap.size w w' := by
  go_enter Try.func116, Try.ntmps116
  go_upto_region 1 with fail
  obtain ⟨w1, e1⟩ : ∃ w', (w.alloc (.cells #[.int .i64 k, .int .i64 (a : Int), .int .i64 (b : Int), .int .i64 (c : Int)] 43)).alloc (.cells #[.int .i64 0, .int .i64 0, .int .i64 0, .int .i64 0] 43) = w' := ⟨_, rfl⟩
  have z0 : Bx w1 w.heap.size [.int .i64 k, .int .i64 (a : Int), .int .i64 (b : Int), .int .i64 (c : Int)] := by
    rw [← e1]
    exact (Bx.made_k w rfl #[.int .i64 k, .int .i64 (a : Int), .int .i64 (b : Int), .int .i64 (c : Int)] 43).on (below_lit _ _)
  have ZR : Own w1 (w.heap.size + 1) 43 [.int .i64 0, .int .i64 0, .int .i64 0, .int .i64 0] := by
    rw [← e1, ← size_lit w (.cells #[.int .i64 k, .int .i64 (a : Int), .int .i64 (b : Int), .int .i64 (c : Int)] 43) rfl]
    exact Own.made _ 43 [.int .i64 0, .int .i64 0, .int .i64 0, .int .i64 0]
  have BW : Below w.heap.size w w1 := by rw [← e1]; exact below2 _ _ _
  replace h := h.on BW
  obtain ⟨s1, hs1⟩ : ∃ s1, w.heap.size + 1 = s1 := ⟨_, rfl⟩
  have hle : w.heap.size ≤ s1 := by omega
  have hne : w.heap.size ≠ s1 := by omega
  rw [e1]
  clear e1
  rw [hs1] at ZR ⊢
  have z0c0 := z0.2 0 _ rfl; have z0c1 := z0.2 1 _ rfl; have z0c2 := z0.2 2 _ rfl; have z0c3 := z0.2 3 _ rfl; have zr0 : _ = some (Value.int .i64 0) := ZR.cell 0; have zf0 := ZR.free 0; have zr1 : _ = some (Value.int .i64 0) := ZR.cell 1; have zf1 := ZR.free 1; have zr2 : _ = some (Value.int .i64 0) := ZR.cell 2; have zf2 := ZR.free 2; have zr3 : _ = some (Value.int .i64 0) := ZR.cell 3; have zf3 := ZR.free 3
  go_wp2_with (first | (go_at_call 126; (first | with_reducible refine (isConst_as h c hc 1 false c0).mono ?_ | with_reducible refine (isConst_as h c hc 0 false c1).mono ?_ | with_reducible refine (isConst_as h a ha 0 true c3).mono ?_ | with_reducible refine (isConst_as h b hb 1 true c4).mono ?_); (rintro en w2 ⟨rfl, b⟩; clear z0c0 z0c1 z0c2 z0c3 zr0 zr1 zr2 zr3 zf0 zf1 zf2 zf3; replace h := h.on b; replace z0 := z0.on b; replace ZR := ZR.below b ZR.lt; replace BW := Below.step BW b; clear b; have z0c0 := z0.2 0 _ rfl; have z0c1 := z0.2 1 _ rfl; have z0c2 := z0.2 2 _ rfl; have z0c3 := z0.2 3 _ rfl; have zr0 : _ = some (Value.int .i64 0) := ZR.cell 0; have zf0 := ZR.free 0; have zr1 : _ = some (Value.int .i64 0) := ZR.cell 1; have zf1 := ZR.free 1; have zr2 : _ = some (Value.int .i64 0) := ZR.cell 2; have zf2 := ZR.free 2; have zr3 : _ = some (Value.int .i64 0) := ZR.cell 3; have zf3 := ZR.free 3)))
  have bd : Below w2.heap.size w2 w2.drew := (Below.refl _ _).drew
  have y0c0 := (z0.on bd).2 0 _ rfl; have y0c1 := (z0.on bd).2 1 _ rfl; have y0c2 := (z0.on bd).2 2 _ rfl; have y0c3 := (z0.on bd).2 3 _ rfl
  have YR := ZR.below bd ZR.lt
  have yr0 : _ = some (Value.int .i64 0) := YR.cell 0; have yf0 := YR.free 0; have yr1 : _ = some (Value.int .i64 0) := YR.cell 1; have yf1 := YR.free 1; have yr2 : _ = some (Value.int .i64 0) := YR.cell 2; have yf2 := YR.free 2; have yr3 : _ = some (Value.int .i64 0) := YR.cell 3; have yf3 := YR.free 3
  clear bd h
  go_region
  go_wp2_with fail
  have VR := (((ZR.put 0 (.int .i64 k)).put 1 (.int .i64 (a : Int))).put 2 (.int .i64 (b : Int))).put 3 (.int .i64 (c : Int))
  have p0 : _ = some (Value.int .i64 k) := VR.cell 0; have p1 : _ = some (Value.int .i64 (a : Int)) := VR.cell 1; have p2 : _ = some (Value.int .i64 (b : Int)) := VR.cell 2; have p3 : _ = some (Value.int .i64 (c : Int)) := VR.cell 3
  refine bodyPost_ret (v := .tuple #[.agg #[.int .i64 k, .int .i64 (a : Int), .int .i64 (b : Int), .int .i64 (c : Int)], .int .i64 (c : Int)]) (by simp [results, Try.results116, go_sem, p0, p1, p2, p3]) rfl ⟨rfl, ((((BW.setCell (p := ⟨s1, 0, none⟩) hle (.int .i64 k)).setCell (p := ⟨s1, 1, none⟩) hle (.int .i64 (a : Int))).setCell (p := ⟨s1, 2, none⟩) hle (.int .i64 (b : Int))).setCell (p := ⟨s1, 3, none⟩) hle (.int .i64 (c : Int))).drew⟩
set_option maxHeartbeats 4000000 in
theorem mux_4 {w : World} {p : Nat} {M : List Nd} {S : List Int} (h : Fr w p M S) (k q : Int) (a b c : Nat) (ha : a < M.length) (hb : b < M.length) (hc : c < M.length) (c0 : isC M (c : Int) 1 = false) (c1 : isC M (c : Int) 0 = false) (c2 : ((a : Int) == (b : Int)) = false) (c3 : isC M (a : Int) 0 = true) (c4 : isC M (b : Int) 1 = false) (c5 : isC M (a : Int) 1 = false) : Calls Try.prog 116 #[.pointer (some ⟨p, 0, none⟩), .agg #[.int .i64 k, .int .i64 (a : Int), .int .i64 (b : Int), .int .i64 (c : Int)], .int .i64 q] w fun e w' => e = .returned (.tuple #[.agg #[.int .i64 3, .int .i64 (b : Int), .int .i64 (c : Int), .int .i64 0], .int .i64 q]) ∧ Below w.heap.size w w' := by
  go_enter Try.func116, Try.ntmps116
  go_upto_region 1 with fail
  obtain ⟨w1, e1⟩ : ∃ w', (w.alloc (.cells #[.int .i64 k, .int .i64 (a : Int), .int .i64 (b : Int), .int .i64 (c : Int)] 43)).alloc (.cells #[.int .i64 0, .int .i64 0, .int .i64 0, .int .i64 0] 43) = w' := ⟨_, rfl⟩
  have z0 : Bx w1 w.heap.size [.int .i64 k, .int .i64 (a : Int), .int .i64 (b : Int), .int .i64 (c : Int)] := by
    rw [← e1]
    exact (Bx.made_k w rfl #[.int .i64 k, .int .i64 (a : Int), .int .i64 (b : Int), .int .i64 (c : Int)] 43).on (below_lit _ _)
  have ZR : Own w1 (w.heap.size + 1) 43 [.int .i64 0, .int .i64 0, .int .i64 0, .int .i64 0] := by
    rw [← e1, ← size_lit w (.cells #[.int .i64 k, .int .i64 (a : Int), .int .i64 (b : Int), .int .i64 (c : Int)] 43) rfl]
    exact Own.made _ 43 [.int .i64 0, .int .i64 0, .int .i64 0, .int .i64 0]
  have BW : Below w.heap.size w w1 := by rw [← e1]; exact below2 _ _ _
  replace h := h.on BW
  obtain ⟨s1, hs1⟩ : ∃ s1, w.heap.size + 1 = s1 := ⟨_, rfl⟩
  have hle : w.heap.size ≤ s1 := by omega
  have hne : w.heap.size ≠ s1 := by omega
  rw [e1]
  clear e1
  rw [hs1] at ZR ⊢
  have z0c0 := z0.2 0 _ rfl; have z0c1 := z0.2 1 _ rfl; have z0c2 := z0.2 2 _ rfl; have z0c3 := z0.2 3 _ rfl; have zr0 : _ = some (Value.int .i64 0) := ZR.cell 0; have zf0 := ZR.free 0; have zr1 : _ = some (Value.int .i64 0) := ZR.cell 1; have zf1 := ZR.free 1; have zr2 : _ = some (Value.int .i64 0) := ZR.cell 2; have zf2 := ZR.free 2; have zr3 : _ = some (Value.int .i64 0) := ZR.cell 3; have zf3 := ZR.free 3
  go_wp2_with (first | (go_at_call 126; (first | with_reducible refine (isConst_as h c hc 1 false c0).mono ?_ | with_reducible refine (isConst_as h c hc 0 false c1).mono ?_ | with_reducible refine (isConst_as h a ha 0 true c3).mono ?_ | with_reducible refine (isConst_as h b hb 1 false c4).mono ?_ | with_reducible refine (isConst_as h a ha 1 false c5).mono ?_); (rintro en w2 ⟨rfl, b⟩; clear z0c0 z0c1 z0c2 z0c3 zr0 zr1 zr2 zr3 zf0 zf1 zf2 zf3; replace h := h.on b; replace z0 := z0.on b; replace ZR := ZR.below b ZR.lt; replace BW := Below.step BW b; clear b; have z0c0 := z0.2 0 _ rfl; have z0c1 := z0.2 1 _ rfl; have z0c2 := z0.2 2 _ rfl; have z0c3 := z0.2 3 _ rfl; have zr0 : _ = some (Value.int .i64 0) := ZR.cell 0; have zf0 := ZR.free 0; have zr1 : _ = some (Value.int .i64 0) := ZR.cell 1; have zf1 := ZR.free 1; have zr2 : _ = some (Value.int .i64 0) := ZR.cell 2; have zf2 := ZR.free 2; have zr3 : _ = some (Value.int .i64 0) := ZR.cell 3; have zf3 := ZR.free 3)))
  have VR := (((ZR.put 0 (.int .i64 3)).put 1 (.int .i64 (b : Int))).put 2 (.int .i64 (c : Int))).put 3 (.int .i64 0)
  have p0 : _ = some (Value.int .i64 3) := VR.cell 0; have p1 : _ = some (Value.int .i64 (b : Int)) := VR.cell 1; have p2 : _ = some (Value.int .i64 (c : Int)) := VR.cell 2; have p3 : _ = some (Value.int .i64 0) := VR.cell 3
  refine bodyPost_ret (v := .tuple #[.agg #[.int .i64 3, .int .i64 (b : Int), .int .i64 (c : Int), .int .i64 0], .int .i64 q]) (by simp [results, Try.results116, go_sem, p0, p1, p2, p3]) rfl ⟨rfl, ((((BW.setCell (p := ⟨s1, 0, none⟩) hle (.int .i64 3)).setCell (p := ⟨s1, 1, none⟩) hle (.int .i64 (b : Int))).setCell (p := ⟨s1, 2, none⟩) hle (.int .i64 (c : Int))).setCell (p := ⟨s1, 3, none⟩) hle (.int .i64 0))⟩
set_option maxHeartbeats 4000000 in
theorem mux_5 {w : World} {p : Nat} {M : List Nd} {S : List Int} (h : Fr w p M S) (k q : Int) (a b c : Nat) (ha : a < M.length) (hb : b < M.length) (hc : c < M.length) (c0 : isC M (c : Int) 1 = false) (c1 : isC M (c : Int) 0 = false) (c2 : ((a : Int) == (b : Int)) = false) (c3 : isC M (a : Int) 0 = false) (c5 : isC M (a : Int) 1 = true) (c6 : isC M (b : Int) 0 = true) : Calls Try.prog 116 #[.pointer (some ⟨p, 0, none⟩), .agg #[.int .i64 k, .int .i64 (a : Int), .int .i64 (b : Int), .int .i64 (c : Int)], .int .i64 q] w fun e w' => e = .returned (.tuple #[.agg #[.int .i64 2, .int .i64 (c : Int), .int .i64 0, .int .i64 0], .int .i64 q]) ∧ Below w.heap.size w w' := by
  go_enter Try.func116, Try.ntmps116
  go_upto_region 1 with fail
  obtain ⟨w1, e1⟩ : ∃ w', (w.alloc (.cells #[.int .i64 k, .int .i64 (a : Int), .int .i64 (b : Int), .int .i64 (c : Int)] 43)).alloc (.cells #[.int .i64 0, .int .i64 0, .int .i64 0, .int .i64 0] 43) = w' := ⟨_, rfl⟩
  have z0 : Bx w1 w.heap.size [.int .i64 k, .int .i64 (a : Int), .int .i64 (b : Int), .int .i64 (c : Int)] := by
    rw [← e1]
    exact (Bx.made_k w rfl #[.int .i64 k, .int .i64 (a : Int), .int .i64 (b : Int), .int .i64 (c : Int)] 43).on (below_lit _ _)
  have ZR : Own w1 (w.heap.size + 1) 43 [.int .i64 0, .int .i64 0, .int .i64 0, .int .i64 0] := by
    rw [← e1, ← size_lit w (.cells #[.int .i64 k, .int .i64 (a : Int), .int .i64 (b : Int), .int .i64 (c : Int)] 43) rfl]
    exact Own.made _ 43 [.int .i64 0, .int .i64 0, .int .i64 0, .int .i64 0]
  have BW : Below w.heap.size w w1 := by rw [← e1]; exact below2 _ _ _
  replace h := h.on BW
  obtain ⟨s1, hs1⟩ : ∃ s1, w.heap.size + 1 = s1 := ⟨_, rfl⟩
  have hle : w.heap.size ≤ s1 := by omega
  have hne : w.heap.size ≠ s1 := by omega
  rw [e1]
  clear e1
  rw [hs1] at ZR ⊢
  have z0c0 := z0.2 0 _ rfl; have z0c1 := z0.2 1 _ rfl; have z0c2 := z0.2 2 _ rfl; have z0c3 := z0.2 3 _ rfl; have zr0 : _ = some (Value.int .i64 0) := ZR.cell 0; have zf0 := ZR.free 0; have zr1 : _ = some (Value.int .i64 0) := ZR.cell 1; have zf1 := ZR.free 1; have zr2 : _ = some (Value.int .i64 0) := ZR.cell 2; have zf2 := ZR.free 2; have zr3 : _ = some (Value.int .i64 0) := ZR.cell 3; have zf3 := ZR.free 3
  go_wp2_with (first | (go_at_call 126; (first | with_reducible refine (isConst_as h c hc 1 false c0).mono ?_ | with_reducible refine (isConst_as h c hc 0 false c1).mono ?_ | with_reducible refine (isConst_as h a ha 0 false c3).mono ?_ | with_reducible refine (isConst_as h a ha 1 true c5).mono ?_ | with_reducible refine (isConst_as h b hb 0 true c6).mono ?_); (rintro en w2 ⟨rfl, b⟩; clear z0c0 z0c1 z0c2 z0c3 zr0 zr1 zr2 zr3 zf0 zf1 zf2 zf3; replace h := h.on b; replace z0 := z0.on b; replace ZR := ZR.below b ZR.lt; replace BW := Below.step BW b; clear b; have z0c0 := z0.2 0 _ rfl; have z0c1 := z0.2 1 _ rfl; have z0c2 := z0.2 2 _ rfl; have z0c3 := z0.2 3 _ rfl; have zr0 : _ = some (Value.int .i64 0) := ZR.cell 0; have zf0 := ZR.free 0; have zr1 : _ = some (Value.int .i64 0) := ZR.cell 1; have zf1 := ZR.free 1; have zr2 : _ = some (Value.int .i64 0) := ZR.cell 2; have zf2 := ZR.free 2; have zr3 : _ = some (Value.int .i64 0) := ZR.cell 3; have zf3 := ZR.free 3)) | (go_at_call 128; (first | with_reducible refine (not1_as (c : Int) _).mono ?_); (rintro en w2 ⟨rfl, b⟩; clear z0c0 z0c1 z0c2 z0c3 zr0 zr1 zr2 zr3 zf0 zf1 zf2 zf3; replace h := h.on b; replace z0 := z0.on b; replace ZR := ZR.below b ZR.lt; replace BW := Below.step BW b; clear b; have z0c0 := z0.2 0 _ rfl; have z0c1 := z0.2 1 _ rfl; have z0c2 := z0.2 2 _ rfl; have z0c3 := z0.2 3 _ rfl; have zr0 : _ = some (Value.int .i64 0) := ZR.cell 0; have zf0 := ZR.free 0; have zr1 : _ = some (Value.int .i64 0) := ZR.cell 1; have zf1 := ZR.free 1; have zr2 : _ = some (Value.int .i64 0) := ZR.cell 2; have zf2 := ZR.free 2; have zr3 : _ = some (Value.int .i64 0) := ZR.cell 3; have zf3 := ZR.free 3)))
  have VR := (((ZR.put 0 (.int .i64 2)).put 1 (.int .i64 (c : Int))).put 2 (.int .i64 0)).put 3 (.int .i64 0)
  have p0 : _ = some (Value.int .i64 2) := VR.cell 0; have p1 : _ = some (Value.int .i64 (c : Int)) := VR.cell 1; have p2 : _ = some (Value.int .i64 0) := VR.cell 2; have p3 : _ = some (Value.int .i64 0) := VR.cell 3
  refine bodyPost_ret (v := .tuple #[.agg #[.int .i64 2, .int .i64 (c : Int), .int .i64 0, .int .i64 0], .int .i64 q]) (by simp [results, Try.results116, go_sem, p0, p1, p2, p3]) rfl ⟨rfl, ((((BW.setCell (p := ⟨s1, 0, none⟩) hle (.int .i64 2)).setCell (p := ⟨s1, 1, none⟩) hle (.int .i64 (c : Int))).setCell (p := ⟨s1, 2, none⟩) hle (.int .i64 0)).setCell (p := ⟨s1, 3, none⟩) hle (.int .i64 0))⟩
set_option maxHeartbeats 4000000 in
theorem mux_6 {w : World} {p : Nat} {M : List Nd} {S : List Int} (h : Fr w p M S) (k q : Int) (a b c : Nat) (ha : a < M.length) (hb : b < M.length) (hc : c < M.length) (c0 : isC M (c : Int) 1 = false) (c1 : isC M (c : Int) 0 = false) (c2 : ((a : Int) == (b : Int)) = false) (c3 : isC M (a : Int) 0 = false) (c5 : isC M (a : Int) 1 = true) (c6 : isC M (b : Int) 0 = false) (c4 : isC M (b : Int) 1 = true) : Calls Try.prog 116 #[.pointer (some ⟨p, 0, none⟩), .agg #[.int .i64 k, .int .i64 (a : Int), .int .i64 (b : Int), .int .i64 (c : Int)], .int .i64 q] w fun e w' => e = .returned (.tuple #[.agg #[.int .i64 4, .int .i64 (a : Int), .int .i64 (c : Int), .int .i64 0], .int .i64 q]) ∧ Below w.heap.size w w' := by
  go_enter Try.func116, Try.ntmps116
  go_upto_region 1 with fail
  obtain ⟨w1, e1⟩ : ∃ w', (w.alloc (.cells #[.int .i64 k, .int .i64 (a : Int), .int .i64 (b : Int), .int .i64 (c : Int)] 43)).alloc (.cells #[.int .i64 0, .int .i64 0, .int .i64 0, .int .i64 0] 43) = w' := ⟨_, rfl⟩
  have z0 : Bx w1 w.heap.size [.int .i64 k, .int .i64 (a : Int), .int .i64 (b : Int), .int .i64 (c : Int)] := by
    rw [← e1]
    exact (Bx.made_k w rfl #[.int .i64 k, .int .i64 (a : Int), .int .i64 (b : Int), .int .i64 (c : Int)] 43).on (below_lit _ _)
  have ZR : Own w1 (w.heap.size + 1) 43 [.int .i64 0, .int .i64 0, .int .i64 0, .int .i64 0] := by
    rw [← e1, ← size_lit w (.cells #[.int .i64 k, .int .i64 (a : Int), .int .i64 (b : Int), .int .i64 (c : Int)] 43) rfl]
    exact Own.made _ 43 [.int .i64 0, .int .i64 0, .int .i64 0, .int .i64 0]
  have BW : Below w.heap.size w w1 := by rw [← e1]; exact below2 _ _ _
  replace h := h.on BW
  obtain ⟨s1, hs1⟩ : ∃ s1, w.heap.size + 1 = s1 := ⟨_, rfl⟩
  have hle : w.heap.size ≤ s1 := by omega
  have hne : w.heap.size ≠ s1 := by omega
  rw [e1]
  clear e1
  rw [hs1] at ZR ⊢
  have z0c0 := z0.2 0 _ rfl; have z0c1 := z0.2 1 _ rfl; have z0c2 := z0.2 2 _ rfl; have z0c3 := z0.2 3 _ rfl; have zr0 : _ = some (Value.int .i64 0) := ZR.cell 0; have zf0 := ZR.free 0; have zr1 : _ = some (Value.int .i64 0) := ZR.cell 1; have zf1 := ZR.free 1; have zr2 : _ = some (Value.int .i64 0) := ZR.cell 2; have zf2 := ZR.free 2; have zr3 : _ = some (Value.int .i64 0) := ZR.cell 3; have zf3 := ZR.free 3
  go_wp2_with (first | (go_at_call 126; (first | with_reducible refine (isConst_as h c hc 1 false c0).mono ?_ | with_reducible refine (isConst_as h c hc 0 false c1).mono ?_ | with_reducible refine (isConst_as h a ha 0 false c3).mono ?_ | with_reducible refine (isConst_as h a ha 1 true c5).mono ?_ | with_reducible refine (isConst_as h b hb 0 false c6).mono ?_ | with_reducible refine (isConst_as h b hb 1 true c4).mono ?_); (rintro en w2 ⟨rfl, b⟩; clear z0c0 z0c1 z0c2 z0c3 zr0 zr1 zr2 zr3 zf0 zf1 zf2 zf3; replace h := h.on b; replace z0 := z0.on b; replace ZR := ZR.below b ZR.lt; replace BW := Below.step BW b; clear b; have z0c0 := z0.2 0 _ rfl; have z0c1 := z0.2 1 _ rfl; have z0c2 := z0.2 2 _ rfl; have z0c3 := z0.2 3 _ rfl; have zr0 : _ = some (Value.int .i64 0) := ZR.cell 0; have zf0 := ZR.free 0; have zr1 : _ = some (Value.int .i64 0) := ZR.cell 1; have zf1 := ZR.free 1; have zr2 : _ = some (Value.int .i64 0) := ZR.cell 2; have zf2 := ZR.free 2; have zr3 : _ = some (Value.int .i64 0) := ZR.cell 3; have zf3 := ZR.free 3)))
  have VR := (((ZR.put 0 (.int .i64 4)).put 1 (.int .i64 (a : Int))).put 2 (.int .i64 (c : Int))).put 3 (.int .i64 0)
  have p0 : _ = some (Value.int .i64 4) := VR.cell 0; have p1 : _ = some (Value.int .i64 (a : Int)) := VR.cell 1; have p2 : _ = some (Value.int .i64 (c : Int)) := VR.cell 2; have p3 : _ = some (Value.int .i64 0) := VR.cell 3
  refine bodyPost_ret (v := .tuple #[.agg #[.int .i64 4, .int .i64 (a : Int), .int .i64 (c : Int), .int .i64 0], .int .i64 q]) (by simp [results, Try.results116, go_sem, p0, p1, p2, p3]) rfl ⟨rfl, ((((BW.setCell (p := ⟨s1, 0, none⟩) hle (.int .i64 4)).setCell (p := ⟨s1, 1, none⟩) hle (.int .i64 (a : Int))).setCell (p := ⟨s1, 2, none⟩) hle (.int .i64 (c : Int))).setCell (p := ⟨s1, 3, none⟩) hle (.int .i64 0))⟩
set_option maxHeartbeats 4000000 in
theorem mux_7 {w : World} {p : Nat} {M : List Nd} {S : List Int} (h : Fr w p M S) (k q : Int) (a b c : Nat) (ha : a < M.length) (hb : b < M.length) (hc : c < M.length) (c0 : isC M (c : Int) 1 = false) (c1 : isC M (c : Int) 0 = false) (c2 : ((a : Int) == (b : Int)) = false) (c3 : isC M (a : Int) 0 = false) (c5 : isC M (a : Int) 1 = true) (c6 : isC M (b : Int) 0 = false) (c4 : isC M (b : Int) 1 = false) : Calls Try.prog 116 #[.pointer (some ⟨p, 0, none⟩), .agg #[.int .i64 k, .int .i64 (a : Int), .int .i64 (b : Int), .int .i64 (c : Int)], .int .i64 q] w fun e w' => e = .returned (.tuple #[.agg #[.int .i64 k, .int .i64 (a : Int), .int .i64 (b : Int), .int .i64 (c : Int)], .int .i64 q]) ∧ Below w.heap.size w w' := by
  go_enter Try.func116, Try.ntmps116
  go_upto_region 1 with fail
  obtain ⟨w1, e1⟩ : ∃ w', (w.alloc (.cells #[.int .i64 k, .int .i64 (a : Int), .int .i64 (b : Int), .int .i64 (c : Int)] 43)).alloc (.cells #[.int .i64 0, .int .i64 0, .int .i64 0, .int .i64 0] 43) = w' := ⟨_, rfl⟩
  have z0 : Bx w1 w.heap.size [.int .i64 k, .int .i64 (a : Int), .int .i64 (b : Int), .int .i64 (c : Int)] := by
    rw [← e1]
    exact (Bx.made_k w rfl #[.int .i64 k, .int .i64 (a : Int), .int .i64 (b : Int), .int .i64 (c : Int)] 43).on (below_lit _ _)
  have ZR : Own w1 (w.heap.size + 1) 43 [.int .i64 0, .int .i64 0, .int .i64 0, .int .i64 0] := by
    rw [← e1, ← size_lit w (.cells #[.int .i64 k, .int .i64 (a : Int), .int .i64 (b : Int), .int .i64 (c : Int)] 43) rfl]
    exact Own.made _ 43 [.int .i64 0, .int .i64 0, .int .i64 0, .int .i64 0]
  have BW : Below w.heap.size w w1 := by rw [← e1]; exact below2 _ _ _
  replace h := h.on BW
  obtain ⟨s1, hs1⟩ : ∃ s1, w.heap.size + 1 = s1 := ⟨_, rfl⟩
  have hle : w.heap.size ≤ s1 := by omega
  have hne : w.heap.size ≠ s1 := by omega
  rw [e1]
  clear e1
  rw [hs1] at ZR ⊢
  have z0c0 := z0.2 0 _ rfl; have z0c1 := z0.2 1 _ rfl; have z0c2 := z0.2 2 _ rfl; have z0c3 := z0.2 3 _ rfl; have zr0 : _ = some (Value.int .i64 0) := ZR.cell 0; have zf0 := ZR.free 0; have zr1 : _ = some (Value.int .i64 0) := ZR.cell 1; have zf1 := ZR.free 1; have zr2 : _ = some (Value.int .i64 0) := ZR.cell 2; have zf2 := ZR.free 2; have zr3 : _ = some (Value.int .i64 0) := ZR.cell 3; have zf3 := ZR.free 3
  go_wp2_with (first | (go_at_call 126; (first | with_reducible refine (isConst_as h c hc 1 false c0).mono ?_ | with_reducible refine (isConst_as h c hc 0 false c1).mono ?_ | with_reducible refine (isConst_as h a ha 0 false c3).mono ?_ | with_reducible refine (isConst_as h a ha 1 true c5).mono ?_ | with_reducible refine (isConst_as h b hb 0 false c6).mono ?_ | with_reducible refine (isConst_as h b hb 1 false c4).mono ?_); (rintro en w2 ⟨rfl, b⟩; clear z0c0 z0c1 z0c2 z0c3 zr0 zr1 zr2 zr3 zf0 zf1 zf2 zf3; replace h := h.on b; replace z0 := z0.on b; replace ZR := ZR.below b ZR.lt; replace BW := Below.step BW b; clear b; have z0c0 := z0.2 0 _ rfl; have z0c1 := z0.2 1 _ rfl; have z0c2 := z0.2 2 _ rfl; have z0c3 := z0.2 3 _ rfl; have zr0 : _ = some (Value.int .i64 0) := ZR.cell 0; have zf0 := ZR.free 0; have zr1 : _ = some (Value.int .i64 0) := ZR.cell 1; have zf1 := ZR.free 1; have zr2 : _ = some (Value.int .i64 0) := ZR.cell 2; have zf2 := ZR.free 2; have zr3 : _ = some (Value.int .i64 0) := ZR.cell 3; have zf3 := ZR.free 3)))
  have VR := (((ZR.put 0 (.int .i64 k)).put 1 (.int .i64 (a : Int))).put 2 (.int .i64 (b : Int))).put 3 (.int .i64 (c : Int))
  have p0 : _ = some (Value.int .i64 k) := VR.cell 0; have p1 : _ = some (Value.int .i64 (a : Int)) := VR.cell 1; have p2 : _ = some (Value.int .i64 (b : Int)) := VR.cell 2; have p3 : _ = some (Value.int .i64 (c : Int)) := VR.cell 3
  refine bodyPost_ret (v := .tuple #[.agg #[.int .i64 k, .int .i64 (a : Int), .int .i64 (b : Int), .int .i64 (c : Int)], .int .i64 q]) (by simp [results, Try.results116, go_sem, p0, p1, p2, p3]) rfl ⟨rfl, ((((BW.setCell (p := ⟨s1, 0, none⟩) hle (.int .i64 k)).setCell (p := ⟨s1, 1, none⟩) hle (.int .i64 (a : Int))).setCell (p := ⟨s1, 2, none⟩) hle (.int .i64 (b : Int))).setCell (p := ⟨s1, 3, none⟩) hle (.int .i64 (c : Int)))⟩
set_option maxHeartbeats 4000000 in
theorem mux_8 {w : World} {p : Nat} {M : List Nd} {S : List Int} (h : Fr w p M S) (k q : Int) (a b c : Nat) (ha : a < M.length) (hb : b < M.length) (hc : c < M.length) (c0 : isC M (c : Int) 1 = false) (c1 : isC M (c : Int) 0 = false) (c2 : ((a : Int) == (b : Int)) = false) (c3 : isC M (a : Int) 0 = false) (c5 : isC M (a : Int) 1 = false) (c4 : isC M (b : Int) 1 = true) : Calls Try.prog 116 #[.pointer (some ⟨p, 0, none⟩), .agg #[.int .i64 k, .int .i64 (a : Int), .int .i64 (b : Int), .int .i64 (c : Int)], .int .i64 q] w fun e w' => e = .returned (.tuple #[.agg #[.int .i64 4, .int .i64 (a : Int), .int .i64 (c : Int), .int .i64 0], .int .i64 q]) ∧ Below w.heap.size w w' := by
  go_enter Try.func116, Try.ntmps116
  go_upto_region 1 with fail
  obtain ⟨w1, e1⟩ : ∃ w', (w.alloc (.cells #[.int .i64 k, .int .i64 (a : Int), .int .i64 (b : Int), .int .i64 (c : Int)] 43)).alloc (.cells #[.int .i64 0, .int .i64 0, .int .i64 0, .int .i64 0] 43) = w' := ⟨_, rfl⟩
  have z0 : Bx w1 w.heap.size [.int .i64 k, .int .i64 (a : Int), .int .i64 (b : Int), .int .i64 (c : Int)] := by
    rw [← e1]
    exact (Bx.made_k w rfl #[.int .i64 k, .int .i64 (a : Int), .int .i64 (b : Int), .int .i64 (c : Int)] 43).on (below_lit _ _)
  have ZR : Own w1 (w.heap.size + 1) 43 [.int .i64 0, .int .i64 0, .int .i64 0, .int .i64 0] := by
    rw [← e1, ← size_lit w (.cells #[.int .i64 k, .int .i64 (a : Int), .int .i64 (b : Int), .int .i64 (c : Int)] 43) rfl]
    exact Own.made _ 43 [.int .i64 0, .int .i64 0, .int .i64 0, .int .i64 0]
  have BW : Below w.heap.size w w1 := by rw [← e1]; exact below2 _ _ _
  replace h := h.on BW
  obtain ⟨s1, hs1⟩ : ∃ s1, w.heap.size + 1 = s1 := ⟨_, rfl⟩
  have hle : w.heap.size ≤ s1 := by omega
  have hne : w.heap.size ≠ s1 := by omega
  rw [e1]
  clear e1
  rw [hs1] at ZR ⊢
  have z0c0 := z0.2 0 _ rfl; have z0c1 := z0.2 1 _ rfl; have z0c2 := z0.2 2 _ rfl; have z0c3 := z0.2 3 _ rfl; have zr0 : _ = some (Value.int .i64 0) := ZR.cell 0; have zf0 := ZR.free 0; have zr1 : _ = some (Value.int .i64 0) := ZR.cell 1; have zf1 := ZR.free 1; have zr2 : _ = some (Value.int .i64 0) := ZR.cell 2; have zf2 := ZR.free 2; have zr3 : _ = some (Value.int .i64 0) := ZR.cell 3; have zf3 := ZR.free 3
  go_wp2_with (first | (go_at_call 126; (first | with_reducible refine (isConst_as h c hc 1 false c0).mono ?_ | with_reducible refine (isConst_as h c hc 0 false c1).mono ?_ | with_reducible refine (isConst_as h a ha 0 false c3).mono ?_ | with_reducible refine (isConst_as h a ha 1 false c5).mono ?_ | with_reducible refine (isConst_as h b hb 1 true c4).mono ?_); (rintro en w2 ⟨rfl, b⟩; clear z0c0 z0c1 z0c2 z0c3 zr0 zr1 zr2 zr3 zf0 zf1 zf2 zf3; replace h := h.on b; replace z0 := z0.on b; replace ZR := ZR.below b ZR.lt; replace BW := Below.step BW b; clear b; have z0c0 := z0.2 0 _ rfl; have z0c1 := z0.2 1 _ rfl; have z0c2 := z0.2 2 _ rfl; have z0c3 := z0.2 3 _ rfl; have zr0 : _ = some (Value.int .i64 0) := ZR.cell 0; have zf0 := ZR.free 0; have zr1 : _ = some (Value.int .i64 0) := ZR.cell 1; have zf1 := ZR.free 1; have zr2 : _ = some (Value.int .i64 0) := ZR.cell 2; have zf2 := ZR.free 2; have zr3 : _ = some (Value.int .i64 0) := ZR.cell 3; have zf3 := ZR.free 3)))
  have VR := (((ZR.put 0 (.int .i64 4)).put 1 (.int .i64 (a : Int))).put 2 (.int .i64 (c : Int))).put 3 (.int .i64 0)
  have p0 : _ = some (Value.int .i64 4) := VR.cell 0; have p1 : _ = some (Value.int .i64 (a : Int)) := VR.cell 1; have p2 : _ = some (Value.int .i64 (c : Int)) := VR.cell 2; have p3 : _ = some (Value.int .i64 0) := VR.cell 3
  refine bodyPost_ret (v := .tuple #[.agg #[.int .i64 4, .int .i64 (a : Int), .int .i64 (c : Int), .int .i64 0], .int .i64 q]) (by simp [results, Try.results116, go_sem, p0, p1, p2, p3]) rfl ⟨rfl, ((((BW.setCell (p := ⟨s1, 0, none⟩) hle (.int .i64 4)).setCell (p := ⟨s1, 1, none⟩) hle (.int .i64 (a : Int))).setCell (p := ⟨s1, 2, none⟩) hle (.int .i64 (c : Int))).setCell (p := ⟨s1, 3, none⟩) hle (.int .i64 0))⟩
set_option maxHeartbeats 4000000 in
theorem mux_9 {w : World} {p : Nat} {M : List Nd} {S : List Int} (h : Fr w p M S) (k q : Int) (a b c : Nat) (ha : a < M.length) (hb : b < M.length) (hc : c < M.length) (c0 : isC M (c : Int) 1 = false) (c1 : isC M (c : Int) 0 = false) (c2 : ((a : Int) == (b : Int)) = false) (c3 : isC M (a : Int) 0 = false) (c5 : isC M (a : Int) 1 = false) (c4 : isC M (b : Int) 1 = false) : Calls Try.prog 116 #[.pointer (some ⟨p, 0, none⟩), .agg #[.int .i64 k, .int .i64 (a : Int), .int .i64 (b : Int), .int .i64 (c : Int)], .int .i64 q] w fun e w' => e = .returned (.tuple #[.agg #[.int .i64 k, .int .i64 (a : Int), .int .i64 (b : Int), .int .i64 (c : Int)], .int .i64 q]) ∧ Below w.heap.size w w' := by
  go_enter Try.func116, Try.ntmps116
  go_upto_region 1 with fail
  obtain ⟨w1, e1⟩ : ∃ w', (w.alloc (.cells #[.int .i64 k, .int .i64 (a : Int), .int .i64 (b : Int), .int .i64 (c : Int)] 43)).alloc (.cells #[.int .i64 0, .int .i64 0, .int .i64 0, .int .i64 0] 43) = w' := ⟨_, rfl⟩
  have z0 : Bx w1 w.heap.size [.int .i64 k, .int .i64 (a : Int), .int .i64 (b : Int), .int .i64 (c : Int)] := by
    rw [← e1]
    exact (Bx.made_k w rfl #[.int .i64 k, .int .i64 (a : Int), .int .i64 (b : Int), .int .i64 (c : Int)] 43).on (below_lit _ _)
  have ZR : Own w1 (w.heap.size + 1) 43 [.int .i64 0, .int .i64 0, .int .i64 0, .int .i64 0] := by
    rw [← e1, ← size_lit w (.cells #[.int .i64 k, .int .i64 (a : Int), .int .i64 (b : Int), .int .i64 (c : Int)] 43) rfl]
    exact Own.made _ 43 [.int .i64 0, .int .i64 0, .int .i64 0, .int .i64 0]
  have BW : Below w.heap.size w w1 := by rw [← e1]; exact below2 _ _ _
  replace h := h.on BW
  obtain ⟨s1, hs1⟩ : ∃ s1, w.heap.size + 1 = s1 := ⟨_, rfl⟩
  have hle : w.heap.size ≤ s1 := by omega
  have hne : w.heap.size ≠ s1 := by omega
  rw [e1]
  clear e1
  rw [hs1] at ZR ⊢
  have z0c0 := z0.2 0 _ rfl; have z0c1 := z0.2 1 _ rfl; have z0c2 := z0.2 2 _ rfl; have z0c3 := z0.2 3 _ rfl; have zr0 : _ = some (Value.int .i64 0) := ZR.cell 0; have zf0 := ZR.free 0; have zr1 : _ = some (Value.int .i64 0) := ZR.cell 1; have zf1 := ZR.free 1; have zr2 : _ = some (Value.int .i64 0) := ZR.cell 2; have zf2 := ZR.free 2; have zr3 : _ = some (Value.int .i64 0) := ZR.cell 3; have zf3 := ZR.free 3
  go_wp2_with (first | (go_at_call 126; (first | with_reducible refine (isConst_as h c hc 1 false c0).mono ?_ | with_reducible refine (isConst_as h c hc 0 false c1).mono ?_ | with_reducible refine (isConst_as h a ha 0 false c3).mono ?_ | with_reducible refine (isConst_as h a ha 1 false c5).mono ?_ | with_reducible refine (isConst_as h b hb 1 false c4).mono ?_); (rintro en w2 ⟨rfl, b⟩; clear z0c0 z0c1 z0c2 z0c3 zr0 zr1 zr2 zr3 zf0 zf1 zf2 zf3; replace h := h.on b; replace z0 := z0.on b; replace ZR := ZR.below b ZR.lt; replace BW := Below.step BW b; clear b; have z0c0 := z0.2 0 _ rfl; have z0c1 := z0.2 1 _ rfl; have z0c2 := z0.2 2 _ rfl; have z0c3 := z0.2 3 _ rfl; have zr0 : _ = some (Value.int .i64 0) := ZR.cell 0; have zf0 := ZR.free 0; have zr1 : _ = some (Value.int .i64 0) := ZR.cell 1; have zf1 := ZR.free 1; have zr2 : _ = some (Value.int .i64 0) := ZR.cell 2; have zf2 := ZR.free 2; have zr3 : _ = some (Value.int .i64 0) := ZR.cell 3; have zf3 := ZR.free 3)))
  have VR := (((ZR.put 0 (.int .i64 k)).put 1 (.int .i64 (a : Int))).put 2 (.int .i64 (b : Int))).put 3 (.int .i64 (c : Int))
  have p0 : _ = some (Value.int .i64 k) := VR.cell 0; have p1 : _ = some (Value.int .i64 (a : Int)) := VR.cell 1; have p2 : _ = some (Value.int .i64 (b : Int)) := VR.cell 2; have p3 : _ = some (Value.int .i64 (c : Int)) := VR.cell 3
  refine bodyPost_ret (v := .tuple #[.agg #[.int .i64 k, .int .i64 (a : Int), .int .i64 (b : Int), .int .i64 (c : Int)], .int .i64 q]) (by simp [results, Try.results116, go_sem, p0, p1, p2, p3]) rfl ⟨rfl, ((((BW.setCell (p := ⟨s1, 0, none⟩) hle (.int .i64 k)).setCell (p := ⟨s1, 1, none⟩) hle (.int .i64 (a : Int))).setCell (p := ⟨s1, 2, none⟩) hle (.int .i64 (b : Int))).setCell (p := ⟨s1, 3, none⟩) hle (.int .i64 (c : Int)))⟩
theorem foldmux_as {w : World} {p : Nat} {M : List Nd} {S : List Int} (h : Fr w p M S) (k q : Int) (a b c : Nat) (ha : a < M.length) (hb : b < M.length) (hc : c < M.length) : Calls Try.prog 116 #[.pointer (some ⟨p, 0, none⟩), .agg #[.int .i64 k, .int .i64 (a : Int), .int .i64 (b : Int), .int .i64 (c : Int)], .int .i64 q] w fun e w' => e = .returned (.tuple #[ndA (muxL M ⟨k, (a : Int), (b : Int), (c : Int)⟩ q).1, .int .i64 (muxL M ⟨k, (a : Int), (b : Int), (c : Int)⟩ q).2]) ∧ Below w.heap.size w w' := by
  cases c0 : isC M (c : Int) 1
  · cases c1 : isC M (c : Int) 0
    · cases c2 : ((a : Int) == (b : Int))
      · cases c3 : isC M (a : Int) 0
        · cases c5 : isC M (a : Int) 1
          · cases c4 : isC M (b : Int) 1
            · rw [show muxL M ⟨k, (a : Int), (b : Int), (c : Int)⟩ q = (⟨k, (a : Int), (b : Int), (c : Int)⟩, q) from by unfold muxL; simp [*] <;> rfl]
              exact mux_9 h k q a b c ha hb hc c0 c1 c2 c3 c5 c4
            · rw [show muxL M ⟨k, (a : Int), (b : Int), (c : Int)⟩ q = (⟨4, (a : Int), (c : Int), 0⟩, q) from by unfold muxL; simp [*] <;> rfl]
              exact mux_8 h k q a b c ha hb hc c0 c1 c2 c3 c5 c4
          · cases c6 : isC M (b : Int) 0
            · cases c4 : isC M (b : Int) 1
              · rw [show muxL M ⟨k, (a : Int), (b : Int), (c : Int)⟩ q = (⟨k, (a : Int), (b : Int), (c : Int)⟩, q) from by unfold muxL; simp [*] <;> rfl]
                exact mux_7 h k q a b c ha hb hc c0 c1 c2 c3 c5 c6 c4
              · rw [show muxL M ⟨k, (a : Int), (b : Int), (c : Int)⟩ q = (⟨4, (a : Int), (c : Int), 0⟩, q) from by unfold muxL; simp [*] <;> rfl]
                exact mux_6 h k q a b c ha hb hc c0 c1 c2 c3 c5 c6 c4
            · rw [show muxL M ⟨k, (a : Int), (b : Int), (c : Int)⟩ q = (⟨2, (c : Int), 0, 0⟩, q) from by unfold muxL; simp [*] <;> rfl]
              exact mux_5 h k q a b c ha hb hc c0 c1 c2 c3 c5 c6
        · cases c4 : isC M (b : Int) 1
          · have c5 : isC M (a : Int) 1 = false := isC_one c3
            rw [show muxL M ⟨k, (a : Int), (b : Int), (c : Int)⟩ q = (⟨3, (b : Int), (c : Int), 0⟩, q) from by unfold muxL; simp [*] <;> rfl]
            exact mux_4 h k q a b c ha hb hc c0 c1 c2 c3 c4 c5
          · rw [show muxL M ⟨k, (a : Int), (b : Int), (c : Int)⟩ q = (⟨k, (a : Int), (b : Int), (c : Int)⟩, (c : Int)) from by unfold muxL; simp [*] <;> rfl]
            exact mux_3 h k q a b c ha hb hc c0 c1 c2 c3 c4
      · rw [show muxL M ⟨k, (a : Int), (b : Int), (c : Int)⟩ q = (⟨k, (a : Int), (b : Int), (c : Int)⟩, (a : Int)) from by unfold muxL; simp [*] <;> rfl]
        exact mux_2 h k q a b c ha hb hc c0 c1 c2
    · rw [show muxL M ⟨k, (a : Int), (b : Int), (c : Int)⟩ q = (⟨k, (a : Int), (b : Int), (c : Int)⟩, (a : Int)) from by unfold muxL; simp [*] <;> rfl]
      exact mux_1 h k q a b c ha hb hc c0 c1
  · rw [show muxL M ⟨k, (a : Int), (b : Int), (c : Int)⟩ q = (⟨k, (a : Int), (b : Int), (c : Int)⟩, (b : Int)) from by unfold muxL; simp [*] <;> rfl]
    exact mux_0 h k q a b c ha hb hc c0
end Go.Proofs.Ytcehklnonhalhaa
