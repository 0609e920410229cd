
/-
  The reference of layer 6: levels, round by round.
-/
import Derived.Test.YtcfmgoilncninaaGbq
import Derived.Test.YtcfmgoilncninaaGbc
namespace Go.Proofs.Ytcfmgoilncninaa
open Go.RowKit
set_option linter.unusedVariables false
set_option maxRecDepth 4000

/-- levels are told, or none. -/
def RlX (w : World) (N : List Nd) (en : Ending) (w' : World) : Prop := (∃ A m c d, en = .returned (.tuple #[.slice A m c, .bool true]) ∧ levS N = some d ∧ d.length = N.length ∧ Is w' A m (d.map fun x : Nat => (x : Int)) ∧ m ≤ c ∧ Below w.heap.size w w') ∨ (en = .returned (.tuple #[.slice none 0 0, .bool false]) ∧ levS N = none ∧ Below w.heap.size w w')
theorem look_place {N : List Nd} {n : Nat} (hf : N.all (formedS n) = true) {i : Nat} {x : Nd} (hx : N[i]? = some x) : ∀ p ∈ usesS x, ∃ j : Nat, p = (j : Int) ∧ j < n := by
  intro p hp
  have h1 := List.all_eq_true.1 hf x (List.mem_of_getElem? hx)
  unfold formedS at h1
  simp only [Bool.and_eq_true] at h1
  have h2 := List.all_eq_true.1 h1.2.2.1 p hp
  unfold placeS at h2
  simp only [Bool.and_eq_true, decide_eq_true_eq] at h2
  exact ⟨p.toNat, by omega, by omega⟩
theorem minus_all {o : List Int} {n : Nat} (hl : o.length = n) (h : ∀ i < n, o[i]? = some (-1)) : o = List.replicate n (-1) := by
  apply List.ext_getElem?
  intro i
  rw [List.getElem?_replicate]
  by_cases hi : i < n
  · rw [if_pos hi, h i hi]
  · rw [if_neg hi, List.getElem?_eq_none (by omega)]
/-- what is known of the row at the head of a round's step. -/
def Rp2 (N : List Nd) (lv : List Int) (r i : Nat) : Prop := Rd N lv ∧ Pg N lv r i
end Go.Proofs.Ytcfmgoilncninaa
