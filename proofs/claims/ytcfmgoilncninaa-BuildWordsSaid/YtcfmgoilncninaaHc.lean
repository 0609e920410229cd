
/-
  sim: fits, State, Reset.
-/
import Derived.Test.YtcfmgoilncninaaHb
import Derived.Deep.QuietTactic
import Derived.BigQuiet
namespace Go.Proofs.Ytcfmgoilncninaa
open Go.RowKit
set_option linter.unusedVariables false
set_option maxRecDepth 4000

theorem fit_end {I : List Pt} {xs : List Nat} {n : Nat} (hl : xs.length = I.length) (hn : I.length = n) (h : (List.range n).all (fitAt I xs) = true) : fitsS I xs = true := by
  unfold fitsS
  rw [hn, h]
  simp [hl, hn]
theorem fit_no {I : List Pt} {xs : List Nat} {i : Nat} (hi : i < I.length) (h : fitAt I xs i = false) : fitsS I xs = false := by
  unfold fitsS
  rw [Bool.and_eq_false_iff]
  right
  rw [List.all_eq_false]
  exact ⟨i, List.mem_range.2 hi, by rw [h]; decide⟩
theorem fit_succ {I : List Pt} {xs : List Nat} {i : Nat} (h : (List.range i).all (fitAt I xs) = true) (hf : fitAt I xs i = true) : (List.range (i + 1)).all (fitAt I xs) = true := by
  rw [List.range_succ, List.all_append, h]
  simp [hf]
theorem own6 {w : World} {p : Nat} {t : TypeId} {a b c d e f : Value} (h : Own w p t [a, b, c, d, e, f]) : w.cell? ⟨p, 0, none⟩ = some a ∧ w.cell? ⟨p, 1, none⟩ = some b ∧ w.cell? ⟨p, 2, none⟩ = some c ∧ w.cell? ⟨p, 3, none⟩ = some d ∧ w.cell? ⟨p, 4, none⟩ = some e ∧ w.cell? ⟨p, 5, none⟩ = some f := ⟨h.cell 0, h.cell 1, h.cell 2, h.cell 3, h.cell 4, h.cell 5⟩
end Go.Proofs.Ytcfmgoilncninaa
