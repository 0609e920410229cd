/-
  What the proofs of ShareSame and ShareLeft need: Gn.
-/
import Derived.Test.YtcehklnonhalhaaSHGm
namespace Go.Proofs.Ytcehklnonhalhaa
open Go.RowKit
set_option linter.unusedVariables false
set_option maxRecDepth 4000

instance : BEq Nd := ⟨sameN⟩
instance : LawfulBEq Nd where
  eq_of_beq {a b} h := by
    obtain ⟨a1, a2, a3, a4⟩ := a
    obtain ⟨b1, b2, b3, b4⟩ := b
    have : sameN _ _ = true := h
    unfold sameN at this
    simp at this
    obtain ⟨rfl, rfl, rfl, rfl⟩ := this
    rfl
  rfl {a} := sameN_refl a
theorem pref_succ {α : Type} {L M : List α} {j : Nat} {x : α} (h : L.take j = M.take j) (hx : L[j]? = some x) (hy : M[j]? = some x) : L.take (j + 1) = M.take (j + 1) := by
  rw [List.take_add_one, List.take_add_one, h, hx, hy]
theorem pref_no {α : Type} [BEq α] [LawfulBEq α] {L M : List α} {j : Nat} {x y : α} (hx : L[j]? = some x) (hy : M[j]? = some y) (h : ¬ x = y) : (L == M) = false := by
  rw [beq_eq_false_iff_ne]
  rintro rfl
  rw [hx] at hy
  injection hy with hy
  exact h hy
theorem pref_end {α : Type} [BEq α] [LawfulBEq α] {L M : List α} {n : Nat} (hl : L.length = n) (hm : M.length = n) (h : L.take n = M.take n) : (L == M) = true := by
  rw [List.take_of_length_le (by omega), List.take_of_length_le (by omega)] at h
  rw [h]
  exact beq_self_eq_true _
theorem len_no {α : Type} [BEq α] [LawfulBEq α] {L M : List α} (h : ¬ L.length = M.length) : (L == M) = false := by
  rw [beq_eq_false_iff_ne]
  rintro rfl
  exact h rfl
end Go.Proofs.Ytcehklnonhalhaa
