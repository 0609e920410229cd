
/-
  The reference of layer 6: Large.
-/
import Derived.Test.YtcfmgoilncninaaGu
namespace Go.Proofs.Ytcfmgoilncninaa
open Go.RowKit
set_option linter.unusedVariables false
set_option maxRecDepth 4000

/-- bits and letters of the first k ports. -/
def sumS (L : List Pt) (k : Nat) : Nat := ((L.take k).map fun p => p.bits.length + p.name.size).sum
theorem sum_succ {L : List Pt} {k : Nat} {p : Pt} (h : L[k]? = some p) : sumS L (k + 1) = sumS L k + (p.bits.length + p.name.size) := by
  unfold sumS
  rw [List.take_add_one, h]
  simp
theorem sum_le (L : List Pt) (B : Nat) (h : ∀ p ∈ L, p.bits.length ≤ B ∧ p.name.size ≤ B) (k : Nat) : sumS L k ≤ k * (2 * B) := by
  induction k with
  | zero => simp [sumS]
  | succ k ih =>
    cases hk : L[k]? with
    | none =>
      have : sumS L (k + 1) = sumS L k := by unfold sumS; rw [List.take_add_one, hk]; simp
      rw [this, Nat.succ_mul]
      omega
    | some p =>
      rw [sum_succ hk, Nat.succ_mul]
      have := h p (List.mem_of_getElem? hk)
      omega
theorem sum_all {L : List Pt} {j k : Nat} (h : L.length ≤ j) (hk : L.length ≤ k) : sumS L j = sumS L k := by
  unfold sumS
  rw [List.take_of_length_le h, List.take_of_length_le hk]
theorem mem_sum : ∀ (L : List Nat) (x : Nat), x ∈ L → x ≤ L.sum := by
  intro L
  induction L with
  | nil => intro x h; cases h
  | cons y L ih =>
    intro x h
    rw [List.sum_cons]
    rcases List.mem_cons.1 h with rfl | h
    · omega
    · have := ih x h
      omega
theorem sum_mem {L : List Pt} {p : Pt} (h : p ∈ L) {k : Nat} (hk : L.length ≤ k) : p.bits.length + p.name.size ≤ sumS L k := by
  unfold sumS
  rw [List.take_of_length_le hk]
  have : p.bits.length + p.name.size ∈ L.map fun p => p.bits.length + p.name.size := List.mem_map.2 ⟨p, h, rfl⟩
  exact mem_sum _ _ this
def largeS (nn ni no : Nat) (I O : List Pt) (M : Nat) : Bool := decide ((M : Int) < (nn : Int)) || (decide (66 < ni) || (decide (66 < no) || decide (4000 < sumS I 70 + sumS O 70)))
/-- a net that isn't large. -/
theorem large_no {nn ni no : Nat} {I O : List Pt} {M : Nat} (h : largeS nn ni no I O M = false) (hi : I.length = ni) (ho : O.length = no) : nn ≤ M ∧ ni ≤ 66 ∧ no ≤ 66 ∧ ∀ p ∈ I ++ O, p.bits.length ≤ 4000 ∧ p.name.size ≤ 4000 := by
  unfold largeS at h
  simp only [Bool.or_eq_false_iff, decide_eq_false_iff_not] at h
  obtain ⟨h1, h2, h3, h4⟩ := h
  refine ⟨by omega, by omega, by omega, fun p hp => ?_⟩
  rcases List.mem_append.1 hp with hp | hp
  · have := sum_mem hp (show I.length ≤ 70 by omega)
    omega
  · have := sum_mem hp (show O.length ≤ 70 by omega)
    omega
end Go.Proofs.Ytcfmgoilncninaa
