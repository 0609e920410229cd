/-
  What the proofs of OptSweeps and OptSettles need: Gz.
-/
import Derived.Test.YtcehklnonhalhaaSOGt
namespace Go.Proofs.Ytcehklnonhalhaa
open Go.RowKit
set_option linter.unusedVariables false
set_option maxRecDepth 4000

theorem need_lt {n : Nat} {x : Nd} (h : formedS n x = true) : ∀ j ∈ needS x, j < n := by
  intro j hj
  unfold needS at hj
  split at hj
  · cases hj
  · obtain ⟨p, hp, rfl⟩ := List.mem_map.1 hj
    unfold formedS at h
    simp only [Bool.and_eq_true] at h
    have := List.all_eq_true.1 h.2.2.1 p hp
    unfold placeS at this
    simp only [Bool.and_eq_true, decide_eq_true_eq] at this
    omega
theorem wrongS_ok {N : List Nd} {I O : List Pt} : wrongS N I O = 0 ↔ ¬ 64 < I.length + O.length ∧ N.all (formedS N.length) = true ∧ (I ++ O).all (bitsS N.length) = true ∧ (I ++ O).all (fun p => nameS p.name) = true ∧ dupS (I ++ O) = false ∧ fedS N I = true := by
  unfold wrongS
  constructor
  · intro h
    split at h
    · cases h
    · rename_i h1
      split at h
      · rename_i h2
        rw [Bool.and_eq_true] at h2
        split at h
        · rename_i h3
          split at h
          · cases h
          · rename_i h4
            split at h
            · rename_i h5
              exact ⟨h1, h2.1, h2.2, h3, by simpa using h4, h5⟩
            · cases h
        · cases h
      · cases h
  · rintro ⟨h1, h2, h3, h4, h5, h6⟩
    rw [if_neg h1, h2, h3, h4, h5, h6]
    rfl
end Go.Proofs.Ytcehklnonhalhaa
