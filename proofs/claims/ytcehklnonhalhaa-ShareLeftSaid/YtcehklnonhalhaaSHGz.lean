/-
  What the proofs of ShareSame and ShareLeft need: Gz.
-/
import Derived.Test.YtcehklnonhalhaaSHGx
namespace Go.Proofs.Ytcehklnonhalhaa
open Go.RowKit
set_option linter.unusedVariables false
set_option maxRecDepth 4000

theorem all_app {N : List Nd} {f : Nat → Nat} {x : Nd} (hf : All N f) (hx : ∀ j ∈ needS x, j < N.length) : All (N ++ [x]) (fun i => if i < N.length then f i else overS f (needS x)) := by
  intro i hi
  by_cases h : i < N.length
  · obtain ⟨y, hy, h1, h2⟩ := hf i h
    refine ⟨y, by rw [List.getElem?_append_left h]; exact hy, fun j hj => ?_, ?_⟩
    · have := h1 j hj
      rw [List.length_append]
      omega
    · show (if i < N.length then f i else overS f (needS x)) = _
      rw [if_pos h, h2]
      exact over_congr fun j hj => (if_pos (h1 j hj)).symm
  · rw [List.length_append, List.length_singleton] at hi
    obtain rfl : i = N.length := by omega
    refine ⟨x, by simp, fun j hj => ?_, ?_⟩
    · have := hx j hj
      rw [List.length_append]
      omega
    · show (if N.length < N.length then f N.length else overS f (needS x)) = _
      rw [if_neg h]
      exact over_congr fun j hj => (if_pos (hx j hj)).symm
theorem place_more {n : Nat} {p : Int} (h : placeS n p = true) : placeS ((n + 1 : Nat) : Int) p = true := by
  unfold placeS at h ⊢
  simp only [Bool.and_eq_true, decide_eq_true_eq] at h ⊢
  omega
theorem formed_more {n : Nat} {x : Nd} (h : formedS n x = true) : formedS ((n + 1 : Nat) : Int) x = true := by
  unfold formedS at h ⊢
  simp only [Bool.and_eq_true] at h ⊢
  refine ⟨h.1, h.2.1, ?_, h.2.2.2⟩
  rw [List.all_eq_true]
  exact fun p hp => place_more (List.all_eq_true.1 h.2.2.1 p hp)
theorem need_lt {n : Nat} {x : Nd} (h : formedS n x = true) : ∀ j ∈ needS x, j < n := by
  intro j hj
  unfold needS at hj
  split at hj
  · cases hj
  · obtain ⟨p, hp, rfl⟩ := List.mem_map.1 hj
    unfold formedS at h
    simp only [Bool.and_eq_true] at h
    have := List.all_eq_true.1 h.2.2.1 p hp
    unfold placeS at this
    simp only [Bool.and_eq_true, decide_eq_true_eq] at this
    omega
theorem wrongS_ok {N : List Nd} {I O : List Pt} : wrongS N I O = 0 ↔ ¬ 64 < I.length + O.length ∧ N.all (formedS N.length) = true ∧ (I ++ O).all (bitsS N.length) = true ∧ (I ++ O).all (fun p => nameS p.name) = true ∧ dupS (I ++ O) = false ∧ fedS N I = true := by
  unfold wrongS
  constructor
  · intro h
    split at h
    · cases h
    · rename_i h1
      split at h
      · rename_i h2
        rw [Bool.and_eq_true] at h2
        split at h
        · rename_i h3
          split at h
          · cases h
          · rename_i h4
            split at h
            · rename_i h5
              exact ⟨h1, h2.1, h2.2, h3, by simpa using h4, h5⟩
            · cases h
        · cases h
      · cases h
  · rintro ⟨h1, h2, h3, h4, h5, h6⟩
    rw [if_neg h1, h2, h3, h4, h5, h6]
    rfl
end Go.Proofs.Ytcehklnonhalhaa
