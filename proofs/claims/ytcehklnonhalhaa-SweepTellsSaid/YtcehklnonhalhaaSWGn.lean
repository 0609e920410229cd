/-
  What the proofs of SweepTells and SweepCones and SweepSame need: Gn Gp Gq.
-/
import Derived.Test.YtcehklnonhalhaaSWGk
import Derived.Lib.SliceRun
namespace Go.Proofs.Ytcehklnonhalhaa
open Go.RowKit
set_option linter.unusedVariables false
set_option maxRecDepth 4000

instance : BEq Nd := ⟨sameN⟩
instance : LawfulBEq Nd where
  eq_of_beq {a b} h := by
    obtain ⟨a1, a2, a3, a4⟩ := a
    obtain ⟨b1, b2, b3, b4⟩ := b
    have : sameN _ _ = true := h
    unfold sameN at this
    simp at this
    obtain ⟨rfl, rfl, rfl, rfl⟩ := this
    rfl
  rfl {a} := sameN_refl a
theorem pref_succ {α : Type} {L M : List α} {j : Nat} {x : α} (h : L.take j = M.take j) (hx : L[j]? = some x) (hy : M[j]? = some x) : L.take (j + 1) = M.take (j + 1) := by
  rw [List.take_add_one, List.take_add_one, h, hx, hy]
theorem pref_no {α : Type} [BEq α] [LawfulBEq α] {L M : List α} {j : Nat} {x y : α} (hx : L[j]? = some x) (hy : M[j]? = some y) (h : ¬ x = y) : (L == M) = false := by
  rw [beq_eq_false_iff_ne]
  rintro rfl
  rw [hx] at hy
  injection hy with hy
  exact h hy
theorem pref_end {α : Type} [BEq α] [LawfulBEq α] {L M : List α} {n : Nat} (hl : L.length = n) (hm : M.length = n) (h : L.take n = M.take n) : (L == M) = true := by
  rw [List.take_of_length_le (by omega), List.take_of_length_le (by omega)] at h
  rw [h]
  exact beq_self_eq_true _
theorem len_no {α : Type} [BEq α] [LawfulBEq α] {L M : List α} (h : ¬ L.length = M.length) : (L == M) = false := by
  rw [beq_eq_false_iff_ne]
  rintro rfl
  exact h rfl
end Go.Proofs.Ytcehklnonhalhaa
namespace Go.Proofs.Ytcehklnonhalhaa
open Go.RowKit
set_option linter.unusedVariables false
set_option maxRecDepth 4000

def sameP (p q : Pt) : Bool := (p.name.toList == q.name.toList) && (p.bits == q.bits)
def sameAt (L M : List Pt) (i : Nat) : Bool := match L[i]?, M[i]? with
  | some p, some q => sameP p q
  | _, _ => false
/-- rows of ports are the same. -/
def sameL (L M : List Pt) : Bool := (L.length == M.length) && (List.range L.length).all (sameAt L M)
theorem sameL_no {L M : List Pt} (h : ¬ L.length = M.length) : sameL L M = false := by unfold sameL; simp [h]
theorem sameL_at {L M : List Pt} {j : Nat} {p q : Pt} (hp : L[j]? = some p) (hq : M[j]? = some q) (h : sameP p q = false) : sameL L M = false := by
  unfold sameL
  rw [Bool.and_eq_false_iff]
  right
  rw [List.all_eq_false]
  exact ⟨j, List.mem_range.2 (List.getElem?_eq_some_iff.1 hp).1, by unfold sameAt; rw [hp, hq]; simpa using h⟩
theorem sameL_end {L M : List Pt} {n : Nat} (hl : L.length = n) (hm : M.length = n) (h : (List.range n).all (sameAt L M) = true) : sameL L M = true := by
  unfold sameL
  rw [hl, hm, h]
  simp
theorem sameAt_succ {L M : List Pt} {j : Nat} {p q : Pt} (hp : L[j]? = some p) (hq : M[j]? = some q) (h : sameP p q = true) (ha : (List.range j).all (sameAt L M) = true) : (List.range (j + 1)).all (sameAt L M) = true := by
  rw [List.range_succ, List.all_append, ha]
  unfold sameAt
  simp [hp, hq, h]
def sameS (N N' : List Nd) (I I' O O' : List Pt) : Bool := (N == N') && (sameL I I' && sameL O O')
end Go.Proofs.Ytcehklnonhalhaa
namespace Go.Proofs.Ytcehklnonhalhaa
open Go.RowKit
set_option linter.unusedVariables false
set_option maxRecDepth 4000

theorem cloneI_as_none (w : World) : Calls Try.prog 95 #[.slice none 0 0] w fun en w' => en = .returned (.slice none 0 0) ∧ w = w' := by
  have q : ∀ w : World, (binOp .eql 39 (.slice none 0 0) (.slice none 0 0)).run Try.prog w = .ok (.bool true) w := fun w => Lib.run_eql_slice_nil w _ _ _ _ _ _ _ Try.underlying39
  go_enter Try.func95, Try.ntmps95
  go_wp2_with fail
  go_ret
  exact ⟨rfl, rfl⟩
set_option maxHeartbeats 1000000 in
theorem cloneI_as {A : Option Addr} {n c : Nat} {L : List Int} {w : World} (h : Is w A n L) (sw : Sw A n c) (hn : n ≤ 100000) :
    Calls Try.prog 95 #[.slice A n c] w fun en w' => ∃ v, en = .returned v ∧ w'.ownsRow w.heap.size 3 1 v n (L.flatMap inC) ∧ Below w.heap.size w w' := by
  cases A with
  | none =>
    obtain ⟨rfl, rfl⟩ := sw.none_ rfl
    obtain rfl : L = [] := List.eq_nil_of_length_eq_zero h.1
    refine (cloneI_as_none w).mono ?_
    rintro en w' ⟨rfl, rfl⟩
    exact ⟨_, rfl, World.ownsRow_nil w _ _ _, Below.refl _ _⟩
  | some ad =>
    have q : ∀ w : World, (binOp .eql 39 (.slice (some ad) n c) (.slice none 0 0)).run Try.prog w = .ok (.bool false) w := fun w => Lib.run_eql_slice_nil w _ _ _ _ _ _ _ Try.underlying39
    go_enter Try.func95, Try.ntmps95
    go_upto_region 3 with fail
    have hrow : (w.alloc (.cells #[] 3)).ownsRow w.heap.size 3 1 (.slice (some ⟨w.heap.size, 0, none⟩) 0 0) 0 [] := World.ownsRow_lit w #[] 0 (Nat.le_refl _) (by unfold maxLen; omega) rfl
    have b1 : Below w.heap.size w (w.alloc (.cells #[] 3)) := below_lit _ _
    have h1 := h.on b1
    go_wp2_with (at_builtin; refine wpList_app (A := some ad) (m := n) (c := c) rfl _ _ 39 rfl elm_int (by omega) (by omega) w.heap.size _ _ _ rfl hrow (L.flatMap inC) rfl sw.none_ (by rw [flat_len inC 1 inC_len, h.1]) h1.cells (one_in _) (by omega) b1.size ?_; intro v2 w2 hrow2 hg; have b2 := row_below hrow b1 (Nat.le_refl _) hg)
    go_ret
    exact ⟨_, rfl, by simpa using hrow2, b2⟩
theorem cloneN_as_none (w : World) : Calls Try.prog 67 #[.slice none 0 0] w fun en w' => en = .returned (.slice none 0 0) ∧ w = w' := by
  have q : ∀ w : World, (binOp .eql 22 (.slice none 0 0) (.slice none 0 0)).run Try.prog w = .ok (.bool true) w := fun w => Lib.run_eql_slice_nil w _ _ _ _ _ _ _ Try.underlying22
  go_enter Try.func67, Try.ntmps67
  go_wp2_with fail
  go_ret
  exact ⟨rfl, rfl⟩
set_option maxHeartbeats 1000000 in
theorem cloneN_as {A : Option Addr} {n c : Nat} {L : List Nd} {w : World} (h : Ns w A n L) (sw : Sw A n c) (hn : n ≤ 100000) :
    Calls Try.prog 67 #[.slice A n c] w fun en w' => ∃ v, en = .returned v ∧ w'.ownsRow w.heap.size 43 4 v n (L.flatMap ndC) ∧ Below w.heap.size w w' := by
  cases A with
  | none =>
    obtain ⟨rfl, rfl⟩ := sw.none_ rfl
    obtain rfl : L = [] := List.eq_nil_of_length_eq_zero h.1
    refine (cloneN_as_none w).mono ?_
    rintro en w' ⟨rfl, rfl⟩
    exact ⟨_, rfl, World.ownsRow_nil w _ _ _, Below.refl _ _⟩
  | some ad =>
    have q : ∀ w : World, (binOp .eql 22 (.slice (some ad) n c) (.slice none 0 0)).run Try.prog w = .ok (.bool false) w := fun w => Lib.run_eql_slice_nil w _ _ _ _ _ _ _ Try.underlying22
    go_enter Try.func67, Try.ntmps67
    go_upto_region 3 with fail
    have hrow : (w.alloc (.cells #[] 43)).ownsRow w.heap.size 43 4 (.slice (some ⟨w.heap.size, 0, none⟩) 0 0) 0 [] := World.ownsRow_lit w #[] 0 (Nat.le_refl _) (by unfold maxLen; omega) rfl
    have b1 : Below w.heap.size w (w.alloc (.cells #[] 43)) := below_lit _ _
    have h1 := h.on b1
    go_wp2_with (at_builtin; refine wpList_app (A := some ad) (m := n) (c := c) rfl _ _ 22 rfl elm_node (by omega) (by omega) w.heap.size _ _ _ rfl hrow (L.flatMap ndC) rfl sw.none_ (by rw [flat_len ndC 4 ndC_len, h.1]) h1.cells (one_nd _) (by omega) b1.size ?_; intro v2 w2 hrow2 hg; have b2 := row_below hrow b1 (Nat.le_refl _) hg)
    go_ret
    exact ⟨_, rfl, by simpa using hrow2, b2⟩
theorem cloneP_as_none (w : World) : Calls Try.prog 94 #[.slice none 0 0] w fun en w' => en = .returned (.slice none 0 0) ∧ w = w' := by
  have q : ∀ w : World, (binOp .eql 23 (.slice none 0 0) (.slice none 0 0)).run Try.prog w = .ok (.bool true) w := fun w => Lib.run_eql_slice_nil w _ _ _ _ _ _ _ Try.underlying23
  go_enter Try.func94, Try.ntmps94
  go_wp2_with fail
  go_ret
  exact ⟨rfl, rfl⟩
set_option maxHeartbeats 1000000 in
theorem cloneP_as {A : Option Addr} {n c : Nat} {L : List Rp} {w : World} (h : PsR w A n L) (sw : Sw A n c) (hn : n ≤ 100000) :
    Calls Try.prog 94 #[.slice A n c] w fun en w' => ∃ v, en = .returned v ∧ w'.ownsRow w.heap.size 41 2 v n (L.flatMap ptC) ∧ Below w.heap.size w w' := by
  cases A with
  | none =>
    obtain ⟨rfl, rfl⟩ := sw.none_ rfl
    obtain rfl : L = [] := List.eq_nil_of_length_eq_zero h.1
    refine (cloneP_as_none w).mono ?_
    rintro en w' ⟨rfl, rfl⟩
    exact ⟨_, rfl, World.ownsRow_nil w _ _ _, Below.refl _ _⟩
  | some ad =>
    have q : ∀ w : World, (binOp .eql 23 (.slice (some ad) n c) (.slice none 0 0)).run Try.prog w = .ok (.bool false) w := fun w => Lib.run_eql_slice_nil w _ _ _ _ _ _ _ Try.underlying23
    go_enter Try.func94, Try.ntmps94
    go_upto_region 3 with fail
    have hrow : (w.alloc (.cells #[] 41)).ownsRow w.heap.size 41 2 (.slice (some ⟨w.heap.size, 0, none⟩) 0 0) 0 [] := World.ownsRow_lit w #[] 0 (Nat.le_refl _) (by unfold maxLen; omega) rfl
    have b1 : Below w.heap.size w (w.alloc (.cells #[] 41)) := below_lit _ _
    have h1 := h.on b1
    go_wp2_with (at_builtin; refine wpList_app (A := some ad) (m := n) (c := c) rfl _ _ 23 rfl elm_port (by omega) (by omega) w.heap.size _ _ _ rfl hrow (L.flatMap ptC) rfl sw.none_ (by rw [flat_len ptC 2 ptC_len, h.1]) h1.cells (one_pt _) (by omega) b1.size ?_; intro v2 w2 hrow2 hg; have b2 := row_below hrow b1 (Nat.le_refl _) hg)
    go_ret
    exact ⟨_, rfl, by simpa using hrow2, b2⟩
end Go.Proofs.Ytcehklnonhalhaa
