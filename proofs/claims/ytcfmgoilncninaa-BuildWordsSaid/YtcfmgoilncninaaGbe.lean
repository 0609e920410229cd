
/-
  The reference of layer 6: Levels, or why there are none.
-/
import Derived.Test.YtcfmgoilncninaaGbb
import Derived.Test.YtcfmgoilncninaaGbd
import Derived.Test.YtcfmgoilncninaaGk
namespace Go.Proofs.Ytcfmgoilncninaa
open Go.RowKit
set_option linter.unusedVariables false
set_option maxRecDepth 4000

theorem lv_bad {N : List Nd} {I O : List Pt} {d : Option (List Nat)} {e v : Int} (hl : levelS N I O = (d, e)) (h : wrongS N I O = v) (hv : v ≠ 0) : d = none ∧ e = v := by
  unfold levelS at hl
  rw [h, if_pos hv] at hl
  simp only [Prod.mk.injEq] at hl
  exact ⟨hl.1.symm, hl.2.symm⟩
theorem lv_good {N : List Nd} {I O : List Pt} {d : Option (List Nat)} {e : Int} (hl : levelS N I O = (d, e)) (h : wrongS N I O = 0) : (∀ x, levS N = some x → d = some x ∧ e = 0) ∧ (levS N = none → d = none ∧ e = 9) := by
  unfold levelS at hl
  rw [h, if_neg (by simp)] at hl
  constructor
  · intro x hx
    rw [hx] at hl
    simp only [Prod.mk.injEq] at hl
    exact ⟨hl.1.symm, hl.2.symm⟩
  · intro hx
    rw [hx] at hl
    simp only [Prod.mk.injEq] at hl
    exact ⟨hl.1.symm, hl.2.symm⟩
section
variable {N : List Nd} {I O : List Pt}
theorem wr4 (h : 64 < I.length + O.length) : wrongS N I O = 4 := if_pos h
theorem wr2 (h : ¬ 64 < I.length + O.length) (h2 : (N.all (formedS N.length) && (I ++ O).all (bitsS N.length)) = false) : wrongS N I O = 2 := by
  unfold wrongS
  rw [if_neg h, h2]
  rfl
theorem wr7 (h : ¬ 64 < I.length + O.length) (h2 : (N.all (formedS N.length) && (I ++ O).all (bitsS N.length)) = true) (h3 : (I ++ O).all (fun p => nameS p.name) = false) : wrongS N I O = 7 := by
  unfold wrongS
  rw [if_neg h, h2, h3]
  rfl
theorem wr8 (h : ¬ 64 < I.length + O.length) (h2 : (N.all (formedS N.length) && (I ++ O).all (bitsS N.length)) = true) (h3 : (I ++ O).all (fun p => nameS p.name) = true) (h4 : dupS (I ++ O) = true) : wrongS N I O = 8 := by
  unfold wrongS
  rw [if_neg h, h2, h3, h4]
  rfl
theorem wr10 (h : ¬ 64 < I.length + O.length) (h2 : (N.all (formedS N.length) && (I ++ O).all (bitsS N.length)) = true) (h3 : (I ++ O).all (fun p => nameS p.name) = true) (h4 : dupS (I ++ O) = false) (h5 : fedS N I = false) : wrongS N I O = 10 := by
  unfold wrongS
  rw [if_neg h, h2, h3, h4, h5]
  rfl
theorem wr0 (h : ¬ 64 < I.length + O.length) (h2 : (N.all (formedS N.length) && (I ++ O).all (bitsS N.length)) = true) (h3 : (I ++ O).all (fun p => nameS p.name) = true) (h4 : dupS (I ++ O) = false) (h5 : fedS N I = true) : wrongS N I O = 0 := by
  unfold wrongS
  rw [if_neg h, h2, h3, h4, h5]
  rfl
end
end Go.Proofs.Ytcfmgoilncninaa
