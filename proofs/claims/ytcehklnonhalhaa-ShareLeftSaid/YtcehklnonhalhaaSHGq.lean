/-
  What the proofs of ShareSame and ShareLeft need: Gq.
-/
import Derived.Test.YtcehklnonhalhaaSHGn
import Derived.Lib.SliceRun
namespace Go.Proofs.Ytcehklnonhalhaa
open Go.RowKit
set_option linter.unusedVariables false
set_option maxRecDepth 4000

theorem cloneI_as_none (w : World) : Calls Try.prog 95 #[.slice none 0 0] w fun en w' => en = .returned (.slice none 0 0) ∧ w = w' := by
  have q : ∀ w : World, (binOp .eql 39 (.slice none 0 0) (.slice none 0 0)).run Try.prog w = .ok (.bool true) w := fun w => Lib.run_eql_slice_nil w _ _ _ _ _ _ _ Try.underlying39
  go_enter Try.func95, Try.ntmps95
  go_wp2_with fail
  go_ret
  exact ⟨rfl, rfl⟩
set_option maxHeartbeats 1000000 in
theorem cloneI_as {A : Option Addr} {n c : Nat} {L : List Int} {w : World} (h : Is w A n L) (sw : Sw A n c) (hn : n ≤ 100000) :
    Calls Try.prog 95 #[.slice A n c] w fun en w' => ∃ v, en = .returned v ∧ w'.ownsRow w.heap.size 3 1 v n (L.flatMap inC) ∧ Below w.heap.size w w' := by
  cases A with
  | none =>
    obtain ⟨rfl, rfl⟩ := sw.none_ rfl
    obtain rfl : L = [] := List.eq_nil_of_length_eq_zero h.1
    refine (cloneI_as_none w).mono ?_
    rintro en w' ⟨rfl, rfl⟩
    exact ⟨_, rfl, World.ownsRow_nil w _ _ _, Below.refl _ _⟩
  | some ad =>
    have q : ∀ w : World, (binOp .eql 39 (.slice (some ad) n c) (.slice none 0 0)).run Try.prog w = .ok (.bool false) w := fun w => Lib.run_eql_slice_nil w _ _ _ _ _ _ _ Try.underlying39
    go_enter Try.func95, Try.ntmps95
    go_upto_region 3 with fail
    have hrow : (w.alloc (.cells #[] 3)).ownsRow w.heap.size 3 1 (.slice (some ⟨w.heap.size, 0, none⟩) 0 0) 0 [] := World.ownsRow_lit w #[] 0 (Nat.le_refl _) (by unfold maxLen; omega) rfl
    have b1 : Below w.heap.size w (w.alloc (.cells #[] 3)) := below_lit _ _
    have h1 := h.on b1
    go_wp2_with (at_builtin; refine wpList_app (A := some ad) (m := n) (c := c) rfl _ _ 39 rfl elm_int (by omega) (by omega) w.heap.size _ _ _ rfl hrow (L.flatMap inC) rfl sw.none_ (by rw [flat_len inC 1 inC_len, h.1]) h1.cells (one_in _) (by omega) b1.size ?_; intro v2 w2 hrow2 hg; have b2 := row_below hrow b1 (Nat.le_refl _) hg)
    go_ret
    exact ⟨_, rfl, by simpa using hrow2, b2⟩
theorem cloneN_as_none (w : World) : Calls Try.prog 67 #[.slice none 0 0] w fun en w' => en = .returned (.slice none 0 0) ∧ w = w' := by
  have q : ∀ w : World, (binOp .eql 22 (.slice none 0 0) (.slice none 0 0)).run Try.prog w = .ok (.bool true) w := fun w => Lib.run_eql_slice_nil w _ _ _ _ _ _ _ Try.underlying22
  go_enter Try.func67, Try.ntmps67
  go_wp2_with fail
  go_ret
  exact ⟨rfl, rfl⟩
set_option maxHeartbeats 1000000 in
theorem cloneN_as {A : Option Addr} {n c : Nat} {L : List Nd} {w : World} (h : Ns w A n L) (sw : Sw A n c) (hn : n ≤ 100000) :
    Calls Try.prog 67 #[.slice A n c] w fun en w' => ∃ v, en = .returned v ∧ w'.ownsRow w.heap.size 43 4 v n (L.flatMap ndC) ∧ Below w.heap.size w w' := by
  cases A with
  | none =>
    obtain ⟨rfl, rfl⟩ := sw.none_ rfl
    obtain rfl : L = [] := List.eq_nil_of_length_eq_zero h.1
    refine (cloneN_as_none w).mono ?_
    rintro en w' ⟨rfl, rfl⟩
    exact ⟨_, rfl, World.ownsRow_nil w _ _ _, Below.refl _ _⟩
  | some ad =>
    have q : ∀ w : World, (binOp .eql 22 (.slice (some ad) n c) (.slice none 0 0)).run Try.prog w = .ok (.bool false) w := fun w => Lib.run_eql_slice_nil w _ _ _ _ _ _ _ Try.underlying22
    go_enter Try.func67, Try.ntmps67
    go_upto_region 3 with fail
    have hrow : (w.alloc (.cells #[] 43)).ownsRow w.heap.size 43 4 (.slice (some ⟨w.heap.size, 0, none⟩) 0 0) 0 [] := World.ownsRow_lit w #[] 0 (Nat.le_refl _) (by unfold maxLen; omega) rfl
    have b1 : Below w.heap.size w (w.alloc (.cells #[] 43)) := below_lit _ _
    have h1 := h.on b1
    go_wp2_with (at_builtin; refine wpList_app (A := some ad) (m := n) (c := c) rfl _ _ 22 rfl elm_node (by omega) (by omega) w.heap.size _ _ _ rfl hrow (L.flatMap ndC) rfl sw.none_ (by rw [flat_len ndC 4 ndC_len, h.1]) h1.cells (one_nd _) (by omega) b1.size ?_; intro v2 w2 hrow2 hg; have b2 := row_below hrow b1 (Nat.le_refl _) hg)
    go_ret
    exact ⟨_, rfl, by simpa using hrow2, b2⟩
theorem cloneP_as_none (w : World) : Calls Try.prog 94 #[.slice none 0 0] w fun en w' => en = .returned (.slice none 0 0) ∧ w = w' := by
  have q : ∀ w : World, (binOp .eql 23 (.slice none 0 0) (.slice none 0 0)).run Try.prog w = .ok (.bool true) w := fun w => Lib.run_eql_slice_nil w _ _ _ _ _ _ _ Try.underlying23
  go_enter Try.func94, Try.ntmps94
  go_wp2_with fail
  go_ret
  exact ⟨rfl, rfl⟩
set_option maxHeartbeats 1000000 in
theorem cloneP_as {A : Option Addr} {n c : Nat} {L : List Rp} {w : World} (h : PsR w A n L) (sw : Sw A n c) (hn : n ≤ 100000) :
    Calls Try.prog 94 #[.slice A n c] w fun en w' => ∃ v, en = .returned v ∧ w'.ownsRow w.heap.size 41 2 v n (L.flatMap ptC) ∧ Below w.heap.size w w' := by
  cases A with
  | none =>
    obtain ⟨rfl, rfl⟩ := sw.none_ rfl
    obtain rfl : L = [] := List.eq_nil_of_length_eq_zero h.1
    refine (cloneP_as_none w).mono ?_
    rintro en w' ⟨rfl, rfl⟩
    exact ⟨_, rfl, World.ownsRow_nil w _ _ _, Below.refl _ _⟩
  | some ad =>
    have q : ∀ w : World, (binOp .eql 23 (.slice (some ad) n c) (.slice none 0 0)).run Try.prog w = .ok (.bool false) w := fun w => Lib.run_eql_slice_nil w _ _ _ _ _ _ _ Try.underlying23
    go_enter Try.func94, Try.ntmps94
    go_upto_region 3 with fail
    have hrow : (w.alloc (.cells #[] 41)).ownsRow w.heap.size 41 2 (.slice (some ⟨w.heap.size, 0, none⟩) 0 0) 0 [] := World.ownsRow_lit w #[] 0 (Nat.le_refl _) (by unfold maxLen; omega) rfl
    have b1 : Below w.heap.size w (w.alloc (.cells #[] 41)) := below_lit _ _
    have h1 := h.on b1
    go_wp2_with (at_builtin; refine wpList_app (A := some ad) (m := n) (c := c) rfl _ _ 23 rfl elm_port (by omega) (by omega) w.heap.size _ _ _ rfl hrow (L.flatMap ptC) rfl sw.none_ (by rw [flat_len ptC 2 ptC_len, h.1]) h1.cells (one_pt _) (by omega) b1.size ?_; intro v2 w2 hrow2 hg; have b2 := row_below hrow b1 (Nat.le_refl _) hg)
    go_ret
    exact ⟨_, rfl, by simpa using hrow2, b2⟩
end Go.Proofs.Ytcehklnonhalhaa
