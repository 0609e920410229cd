
/-
  The reference of layer 6: Name.
-/
import Derived.Test.YtcfmgoilncninaaGv
namespace Go.Proofs.Ytcfmgoilncninaa
open Go.RowKit
set_option linter.unusedVariables false
set_option maxRecDepth 4000

def okR (s : ByteArray) (j : Nat) : Bool := letterS (byS s j) || (otherS (byS s j) && decide (0 < j))
theorem okR_all (s : ByteArray) (h : 0 < s.size) : (List.range s.size).all (okR s) = (letterS (byS s 0) && (List.range s.size).all (okS s)) := by
  rw [Bool.eq_iff_iff, Bool.and_eq_true, List.all_eq_true, List.all_eq_true]
  constructor
  · intro h1
    refine ⟨by simpa [okR] using h1 0 (List.mem_range.2 h), fun j hj => ?_⟩
    have := h1 j hj
    unfold okR at this
    unfold okS
    simp only [Bool.or_eq_true, Bool.and_eq_true] at this ⊢
    exact this.imp id And.left
  · rintro ⟨h0, h1⟩ j hj
    have := h1 j hj
    unfold okS at this
    unfold okR
    cases j with
    | zero => simp [h0]
    | succ j => simp only [Bool.or_eq_true, Bool.and_eq_true] at this ⊢; exact this.imp id fun h => ⟨h, by simp⟩
/-- in the reference's order. -/
theorem nameS_is (s : ByteArray) : nameS s = (!resS s && ((List.range s.size).all (okR s) && (decide (0 < s.size) && decide (s.size ≤ 20)))) := by
  unfold nameS
  by_cases h : 0 < s.size
  · rw [okR_all s h]
    cases resS s <;> cases letterS (byS s 0) <;> cases (List.range s.size).all (okS s) <;> simp
  · rw [decide_eq_false h]
    simp
theorem rname_false {s : ByteArray} (h : resS s = true ∨ (List.range s.size).all (okR s) = false) : nameS s = false := by
  rw [nameS_is]
  rcases h with h | h <;> simp [h]
end Go.Proofs.Ytcfmgoilncninaa
