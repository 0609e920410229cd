
/-
  The walks of format's Of.
-/
import Derived.Test.YtkjbejdeejpdoaaDoorFc
namespace Go.Proofs.YtkjbejdeejpdoaaDoor
open Go.RowKit
set_option linter.unusedVariables false

def frmL : List Int := [16, 11, 5, 32, 24, 8, 64, 53, 11]
/-- the table of formats in its variable. -/
def Frm (w : World) : Prop := ∀ j, j < 9 → w.cell? ⟨0, j, none⟩ = some (.int .i64 (frmL.getD j 0))
theorem Frm.lt {w : World} (h : Frm w) : 0 < w.heap.size := by
  have h0 := h 0 (by omega)
  rcases Nat.lt_or_ge 0 w.heap.size with hlt | hge
  · exact hlt
  · simp only [World.cell?] at h0
    rw [Array.getElem?_eq_none hge] at h0
    cases h0
theorem Frm.on {w w' : World} (h : Frm w) (hb : Below w.heap.size w w') : Frm w' := fun j hj => (hb.cell (p := ⟨_, j, none⟩) h.lt).trans (h j hj)
theorem fidx0 (w : World) : (Instr.index 71 (.agg #[.int .i64 16, .int .i64 11, .int .i64 5, .int .i64 32, .int .i64 24, .int .i64 8, .int .i64 64, .int .i64 53, .int .i64 11]) (.int .i64 0)).run Tryd.prog w = .ok (.agg #[.int .i64 16, .int .i64 11, .int .i64 5]) w := by kernel_rfl
theorem fidx1 (w : World) : (Instr.index 71 (.agg #[.int .i64 16, .int .i64 11, .int .i64 5, .int .i64 32, .int .i64 24, .int .i64 8, .int .i64 64, .int .i64 53, .int .i64 11]) (.int .i64 1)).run Tryd.prog w = .ok (.agg #[.int .i64 32, .int .i64 24, .int .i64 8]) w := by kernel_rfl
theorem fidx2 (w : World) : (Instr.index 71 (.agg #[.int .i64 16, .int .i64 11, .int .i64 5, .int .i64 32, .int .i64 24, .int .i64 8, .int .i64 64, .int .i64 53, .int .i64 11]) (.int .i64 2)).run Tryd.prog w = .ok (.agg #[.int .i64 64, .int .i64 53, .int .i64 11]) w := by kernel_rfl
set_option maxHeartbeats 1000000 in
theorem of_16 (w : World) (h : Frm w) :
    Calls Tryd.prog 10 #[.int .i64 16] w fun e w' => e = .returned (.tuple #[.agg #[.int .i64 16, .int .i64 11, .int .i64 5], .int .i64 0]) ∧ Below w.heap.size w w' := by
  have g0 := h 0 (by omega)
  have g1 := h 1 (by omega)
  have g2 := h 2 (by omega)
  have g3 := h 3 (by omega)
  have g4 := h 4 (by omega)
  have g5 := h 5 (by omega)
  have g6 := h 6 (by omega)
  have g7 := h 7 (by omega)
  have g8 := h 8 (by omega)
  have hlt := h.lt
  simp [frmL] at g0 g1 g2 g3 g4 g5 g6 g7 g8
  go_enter Tryd.func10, Tryd.ntmps10
  go_wp2_with fail
  obtain ⟨V, hV, z0, BW, sW⟩ := fframe1 w 28 0 0 0
  rw [hV]
  clear hV sW h hlt g0 g1 g2 g3 g4 g5 g6 g7 g8
  have ix0 := fidx0
  have ix1 := fidx1
  have ix2 := fidx2
  refine wp_loop_rounds 4 ?_
  rw [rounds_succ]
  obtain ⟨z0c0, z0c1, z0c2, z0f0, z0f1, z0f2, z0l⟩ := z0.cells
  go_wp2_with fail
  refine bodyPost_ret (v := .tuple #[.agg #[.int .i64 16, .int .i64 11, .int .i64 5], .int .i64 0]) (by simp [results, Tryd.results10, go_sem, z0c0, z0c1, z0c2, z0l]) rfl ⟨rfl, ?_⟩
  exact Below.step (below_put3 BW (Nat.le_refl _) _ _ _) (below_lit _ _)
set_option maxHeartbeats 1000000 in
theorem of_32 (w : World) (h : Frm w) :
    Calls Tryd.prog 10 #[.int .i64 32] w fun e w' => e = .returned (.tuple #[.agg #[.int .i64 32, .int .i64 24, .int .i64 8], .int .i64 0]) ∧ Below w.heap.size w w' := by
  have g0 := h 0 (by omega)
  have g1 := h 1 (by omega)
  have g2 := h 2 (by omega)
  have g3 := h 3 (by omega)
  have g4 := h 4 (by omega)
  have g5 := h 5 (by omega)
  have g6 := h 6 (by omega)
  have g7 := h 7 (by omega)
  have g8 := h 8 (by omega)
  have hlt := h.lt
  simp [frmL] at g0 g1 g2 g3 g4 g5 g6 g7 g8
  go_enter Tryd.func10, Tryd.ntmps10
  go_wp2_with fail
  obtain ⟨V, hV, z0, BW, sW⟩ := fframe1 w 28 0 0 0
  rw [hV]
  clear hV sW h hlt g0 g1 g2 g3 g4 g5 g6 g7 g8
  have ix0 := fidx0
  have ix1 := fidx1
  have ix2 := fidx2
  refine wp_loop_rounds 4 ?_
  rw [rounds_succ]
  obtain ⟨z0c0, z0c1, z0c2, z0f0, z0f1, z0f2, z0l⟩ := z0.cells
  go_wp2_with fail
  clear z0c0 z0c1 z0c2 z0f0 z0f1 z0f2 z0l
  obtain ⟨w1, e_w1⟩ : ∃ w', V.alloc (.cells #[.int .i64 16, .int .i64 11, .int .i64 5] 28) = w' := ⟨_, rfl⟩
  have b : Below V.heap.size V w1 := e_w1 ▸ below_lit _ _
  rw [e_w1]
  clear e_w1
  replace z0 := z0.on b
  replace BW := Below.step BW b
  clear b
  rw [rounds_succ]
  obtain ⟨z0c0, z0c1, z0c2, z0f0, z0f1, z0f2, z0l⟩ := z0.cells
  go_wp2_with fail
  refine bodyPost_ret (v := .tuple #[.agg #[.int .i64 32, .int .i64 24, .int .i64 8], .int .i64 0]) (by simp [results, Tryd.results10, go_sem, z0c0, z0c1, z0c2, z0l]) rfl ⟨rfl, ?_⟩
  exact Below.step (below_put3 BW (Nat.le_refl _) _ _ _) (below_lit _ _)
set_option maxHeartbeats 1000000 in
theorem of_64 (w : World) (h : Frm w) :
    Calls Tryd.prog 10 #[.int .i64 64] w fun e w' => e = .returned (.tuple #[.agg #[.int .i64 64, .int .i64 53, .int .i64 11], .int .i64 0]) ∧ Below w.heap.size w w' := by
  have g0 := h 0 (by omega)
  have g1 := h 1 (by omega)
  have g2 := h 2 (by omega)
  have g3 := h 3 (by omega)
  have g4 := h 4 (by omega)
  have g5 := h 5 (by omega)
  have g6 := h 6 (by omega)
  have g7 := h 7 (by omega)
  have g8 := h 8 (by omega)
  have hlt := h.lt
  simp [frmL] at g0 g1 g2 g3 g4 g5 g6 g7 g8
  go_enter Tryd.func10, Tryd.ntmps10
  go_wp2_with fail
  obtain ⟨V, hV, z0, BW, sW⟩ := fframe1 w 28 0 0 0
  rw [hV]
  clear hV sW h hlt g0 g1 g2 g3 g4 g5 g6 g7 g8
  have ix0 := fidx0
  have ix1 := fidx1
  have ix2 := fidx2
  refine wp_loop_rounds 4 ?_
  rw [rounds_succ]
  obtain ⟨z0c0, z0c1, z0c2, z0f0, z0f1, z0f2, z0l⟩ := z0.cells
  go_wp2_with fail
  clear z0c0 z0c1 z0c2 z0f0 z0f1 z0f2 z0l
  obtain ⟨w1, e_w1⟩ : ∃ w', V.alloc (.cells #[.int .i64 16, .int .i64 11, .int .i64 5] 28) = w' := ⟨_, rfl⟩
  have b : Below V.heap.size V w1 := e_w1 ▸ below_lit _ _
  rw [e_w1]
  clear e_w1
  replace z0 := z0.on b
  replace BW := Below.step BW b
  clear b
  rw [rounds_succ]
  obtain ⟨z0c0, z0c1, z0c2, z0f0, z0f1, z0f2, z0l⟩ := z0.cells
  go_wp2_with fail
  clear z0c0 z0c1 z0c2 z0f0 z0f1 z0f2 z0l
  obtain ⟨w2, e_w2⟩ : ∃ w', w1.alloc (.cells #[.int .i64 32, .int .i64 24, .int .i64 8] 28) = w' := ⟨_, rfl⟩
  have b : Below w1.heap.size w1 w2 := e_w2 ▸ below_lit _ _
  rw [e_w2]
  clear e_w2
  replace z0 := z0.on b
  replace BW := Below.step BW b
  clear b
  rw [rounds_succ]
  obtain ⟨z0c0, z0c1, z0c2, z0f0, z0f1, z0f2, z0l⟩ := z0.cells
  go_wp2_with fail
  refine bodyPost_ret (v := .tuple #[.agg #[.int .i64 64, .int .i64 53, .int .i64 11], .int .i64 0]) (by simp [results, Tryd.results10, go_sem, z0c0, z0c1, z0c2, z0l]) rfl ⟨rfl, ?_⟩
  exact Below.step (below_put3 BW (Nat.le_refl _) _ _ _) (below_lit _ _)
set_option maxHeartbeats 1000000 in
theorem of_bad (n : Int) (h1 : n ≠ 16) (h2 : n ≠ 32) (h3 : n ≠ 64) (w : World) (h : Frm w) :
    Calls Tryd.prog 10 #[.int .i64 n] w fun e w' => e = .returned (.tuple #[.agg #[.int .i64 0, .int .i64 0, .int .i64 0], .int .i64 1]) ∧ Below w.heap.size w w' := by
  have g0 := h 0 (by omega)
  have g1 := h 1 (by omega)
  have g2 := h 2 (by omega)
  have g3 := h 3 (by omega)
  have g4 := h 4 (by omega)
  have g5 := h 5 (by omega)
  have g6 := h 6 (by omega)
  have g7 := h 7 (by omega)
  have g8 := h 8 (by omega)
  have hlt := h.lt
  simp [frmL] at g0 g1 g2 g3 g4 g5 g6 g7 g8
  have d0 : ((16 : Int) == n) = false := by simp; omega
  have d1 : ((32 : Int) == n) = false := by simp; omega
  have d2 : ((64 : Int) == n) = false := by simp; omega
  go_enter Tryd.func10, Tryd.ntmps10
  go_wp2_with fail
  obtain ⟨V, hV, z0, BW, sW⟩ := fframe1 w 28 0 0 0
  rw [hV]
  clear hV sW h hlt g0 g1 g2 g3 g4 g5 g6 g7 g8
  have ix0 := fidx0
  have ix1 := fidx1
  have ix2 := fidx2
  refine wp_loop_rounds 4 ?_
  rw [rounds_succ]
  obtain ⟨z0c0, z0c1, z0c2, z0f0, z0f1, z0f2, z0l⟩ := z0.cells
  go_wp2_with fail
  clear z0c0 z0c1 z0c2 z0f0 z0f1 z0f2 z0l
  obtain ⟨w1, e_w1⟩ : ∃ w', V.alloc (.cells #[.int .i64 16, .int .i64 11, .int .i64 5] 28) = w' := ⟨_, rfl⟩
  have b : Below V.heap.size V w1 := e_w1 ▸ below_lit _ _
  rw [e_w1]
  clear e_w1
  replace z0 := z0.on b
  replace BW := Below.step BW b
  clear b
  rw [rounds_succ]
  obtain ⟨z0c0, z0c1, z0c2, z0f0, z0f1, z0f2, z0l⟩ := z0.cells
  go_wp2_with fail
  clear z0c0 z0c1 z0c2 z0f0 z0f1 z0f2 z0l
  obtain ⟨w2, e_w2⟩ : ∃ w', w1.alloc (.cells #[.int .i64 32, .int .i64 24, .int .i64 8] 28) = w' := ⟨_, rfl⟩
  have b : Below w1.heap.size w1 w2 := e_w2 ▸ below_lit _ _
  rw [e_w2]
  clear e_w2
  replace z0 := z0.on b
  replace BW := Below.step BW b
  clear b
  rw [rounds_succ]
  obtain ⟨z0c0, z0c1, z0c2, z0f0, z0f1, z0f2, z0l⟩ := z0.cells
  go_wp2_with fail
  clear z0c0 z0c1 z0c2 z0f0 z0f1 z0f2 z0l
  obtain ⟨w3, e_w3⟩ : ∃ w', w2.alloc (.cells #[.int .i64 64, .int .i64 53, .int .i64 11] 28) = w' := ⟨_, rfl⟩
  have b : Below w2.heap.size w2 w3 := e_w3 ▸ below_lit _ _
  rw [e_w3]
  clear e_w3
  replace z0 := z0.on b
  replace BW := Below.step BW b
  clear b
  rw [rounds_succ]
  obtain ⟨z0c0, z0c1, z0c2, z0f0, z0f1, z0f2, z0l⟩ := z0.cells
  go_wp2_with fail
  refine bodyPost_ret (v := .tuple #[.agg #[.int .i64 0, .int .i64 0, .int .i64 0], .int .i64 1]) (by simp [results, Tryd.results10, go_sem, z0c0, z0c1, z0c2]) rfl ⟨rfl, ?_⟩
  exact below_put3 BW (Nat.le_refl _) _ _ _
theorem of_fm {B P W M E H : Nat} {low : Int} (hf : Fm B P W M E H low) (w : World) (h : Frm w) :
    Calls Tryd.prog 10 #[.int .i64 (B : Int)] w fun e w' => e = .returned (.tuple #[.agg #[.int .i64 (B : Int), .int .i64 (P : Int), .int .i64 (W : Int)], .int .i64 0]) ∧ Below w.heap.size w w' := by
  rcases hf with ⟨rfl, rfl, rfl, rfl, rfl, rfl, rfl⟩ | ⟨rfl, rfl, rfl, rfl, rfl, rfl, rfl⟩ | ⟨rfl, rfl, rfl, rfl, rfl, rfl, rfl⟩
  · exact of_16 w h
  · exact of_32 w h
  · exact of_64 w h
end Go.Proofs.YtkjbejdeejpdoaaDoor
