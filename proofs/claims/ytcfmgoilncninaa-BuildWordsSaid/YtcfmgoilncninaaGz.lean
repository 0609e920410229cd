
/-
  What the laws of layer 6 make of nets: a node more; the order: nothing of a program.
-/
import Derived.Test.YtcfmgoilncninaaGy
namespace Go.Proofs.Ytcfmgoilncninaa
open Go.RowKit
set_option linter.unusedVariables false
set_option maxRecDepth 4000

theorem all_app {N : List Nd} {f : Nat → Nat} {x : Nd} (hf : All N f) (hx : ∀ j ∈ needS x, j < N.length) : All (N ++ [x]) (fun i => if i < N.length then f i else overS f (needS x)) := by
  intro i hi
  by_cases h : i < N.length
  · obtain ⟨y, hy, h1, h2⟩ := hf i h
    refine ⟨y, by rw [List.getElem?_append_left h]; exact hy, fun j hj => ?_, ?_⟩
    · have := h1 j hj
      rw [List.length_append]
      omega
    · show (if i < N.length then f i else overS f (needS x)) = _
      rw [if_pos h, h2]
      exact over_congr fun j hj => (if_pos (h1 j hj)).symm
  · rw [List.length_append, List.length_singleton] at hi
    obtain rfl : i = N.length := by omega
    refine ⟨x, by simp, fun j hj => ?_, ?_⟩
    · have := hx j hj
      rw [List.length_append]
      omega
    · show (if N.length < N.length then f N.length else overS f (needS x)) = _
      rw [if_neg h]
      exact over_congr fun j hj => (if_pos (hx j hj)).symm
/-- the levels of a net with a node more. -/
theorem levS_app {N : List Nd} {d : List Nat} {x : Nd} (h : levS N = some d) (hx : ∀ j ∈ needS x, j < N.length) : ∃ v, levS (N ++ [x]) = some (d ++ [v]) := by
  obtain ⟨hl, hf⟩ := levS_some h
  refine ⟨overS (fun i => d.getD i 0) (needS x), ?_⟩
  rw [levS_is (all_app hf hx), List.length_append, List.length_singleton, List.range_succ, List.map_append]
  congr 2
  · apply List.ext_getElem?
    intro k
    rw [List.getElem?_map]
    by_cases hk : k < N.length
    · rw [List.getElem?_range hk]
      simp only [Option.map_some, if_pos hk]
      rw [List.getD_eq_getElem?_getD, List.getElem?_eq_getElem (by omega)]
      rfl
    · rw [List.getElem?_eq_none (by simp; omega), List.getElem?_eq_none (by omega)]
      rfl
  · simp
theorem place_more {n : Nat} {p : Int} (h : placeS n p = true) : placeS ((n + 1 : Nat) : Int) p = true := by
  unfold placeS at h ⊢
  simp only [Bool.and_eq_true, decide_eq_true_eq] at h ⊢
  omega
theorem formed_more {n : Nat} {x : Nd} (h : formedS n x = true) : formedS ((n + 1 : Nat) : Int) x = true := by
  unfold formedS at h ⊢
  simp only [Bool.and_eq_true] at h ⊢
  refine ⟨h.1, h.2.1, ?_, h.2.2.2⟩
  rw [List.all_eq_true]
  exact fun p hp => place_more (List.all_eq_true.1 h.2.2.1 p hp)
theorem need_lt {n : Nat} {x : Nd} (h : formedS n x = true) : ∀ j ∈ needS x, j < n := by
  intro j hj
  unfold needS at hj
  split at hj
  · cases hj
  · obtain ⟨p, hp, rfl⟩ := List.mem_map.1 hj
    unfold formedS at h
    simp only [Bool.and_eq_true] at h
    have := List.all_eq_true.1 h.2.2.1 p hp
    unfold placeS at this
    simp only [Bool.and_eq_true, decide_eq_true_eq] at this
    omega
theorem wrongS_ok {N : List Nd} {I O : List Pt} : wrongS N I O = 0 ↔ ¬ 64 < I.length + O.length ∧ N.all (formedS N.length) = true ∧ (I ++ O).all (bitsS N.length) = true ∧ (I ++ O).all (fun p => nameS p.name) = true ∧ dupS (I ++ O) = false ∧ fedS N I = true := by
  unfold wrongS
  constructor
  · intro h
    split at h
    · cases h
    · rename_i h1
      split at h
      · rename_i h2
        rw [Bool.and_eq_true] at h2
        split at h
        · rename_i h3
          split at h
          · cases h
          · rename_i h4
            split at h
            · rename_i h5
              exact ⟨h1, h2.1, h2.2, h3, by simpa using h4, h5⟩
            · cases h
        · cases h
      · cases h
  · rintro ⟨h1, h2, h3, h4, h5, h6⟩
    rw [if_neg h1, h2, h3, h4, h5, h6]
    rfl
/-- with a node more, that is as it must be and no Input, a net may be still. -/
theorem wrongS_app {N : List Nd} {I O : List Pt} {x : Nd} (h : wrongS N I O = 0) (hx : formedS ((N.length + 1 : Nat) : Int) x = true) (hk : x.k ≠ 1) : wrongS (N ++ [x]) I O = 0 := by
  obtain ⟨h1, h2, h3, h4, h5, h6⟩ := wrongS_ok.1 h
  have hl : (N ++ [x]).length = N.length + 1 := by simp
  refine wrongS_ok.2 ⟨h1, ?_, ?_, h4, h5, ?_⟩
  · rw [hl, List.all_append, Bool.and_eq_true]
    refine ⟨?_, by simpa using hx⟩
    rw [List.all_eq_true]
    exact fun y hy => formed_more (List.all_eq_true.1 h2 y hy)
  · rw [hl, List.all_eq_true]
    intro p hp
    have := List.all_eq_true.1 h3 p hp
    unfold bitsS at this ⊢
    rw [Bool.and_eq_true] at this ⊢
    refine ⟨this.1, ?_⟩
    rw [List.all_eq_true]
    exact fun q hq => place_more (List.all_eq_true.1 this.2 q hq)
  · unfold fedS
    rw [hl, List.all_eq_true]
    intro i hi
    have hi := List.mem_range.1 hi
    by_cases e : i < N.length
    · have := List.all_eq_true.1 h6 i (List.mem_range.2 e)
      unfold fedAt kindAt at this ⊢
      rw [List.getElem?_append_left e]
      exact this
    · obtain rfl : i = N.length := by omega
      unfold fedAt kindAt
      have e1 : (N ++ [x])[N.length]? = some x := by simp
      rw [e1]
      simp only [if_neg hk, decide_eq_true_eq]
      rw [List.count_eq_zero]
      intro hm
      obtain ⟨p, hp, hq⟩ := List.mem_flatMap.1 hm
      have := List.all_eq_true.1 h3 p (List.mem_append_left _ hp)
      unfold bitsS at this
      rw [Bool.and_eq_true] at this
      have := List.all_eq_true.1 this.2 _ hq
      unfold placeS at this
      simp only [Bool.and_eq_true, decide_eq_true_eq] at this
      omega
/-- NetGrows' sentence, of lists. -/
theorem levelS_app {N : List Nd} {I O : List Pt} {d : List Nat} {x : Nd} (h : levelS N I O = (some d, 0)) (hx : formedS ((N.length + 1 : Nat) : Int) x = true) (hn : ∀ j ∈ needS x, j < N.length) (hk : x.k ≠ 1) : d.length = N.length ∧ ∃ v, levelS (N ++ [x]) I O = (some (d ++ [v]), 0) := by
  unfold levelS at h
  split at h
  · injection h with h1 h2
    cases h1
  · rename_i h0
    have h0 : wrongS N I O = 0 := by simpa using h0
    split at h
    · rename_i dd hd
      injection h with h1 h2
      injection h1 with h1
      subst h1
      obtain ⟨v, hv⟩ := levS_app hd hn
      refine ⟨(levS_some hd).1, v, ?_⟩
      unfold levelS
      rw [wrongS_app h0 hx hk, if_neg (by simp), hv]
    · injection h with h1 h2
      cases h1
end Go.Proofs.Ytcfmgoilncninaa
