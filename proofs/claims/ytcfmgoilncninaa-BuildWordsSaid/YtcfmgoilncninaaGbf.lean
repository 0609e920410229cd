
/-
  The reference of layer 6: Order, by levels, then by places.
-/
import Derived.Test.YtcfmgoilncninaaGbe
import Derived.Test.YtcfmgoilncninaaGm
namespace Go.Proofs.Ytcfmgoilncninaa
open Go.RowKit
set_option linter.unusedVariables false
set_option maxRecDepth 4000

/-- the nodes of a level, ahead of a place. -/
def atL (f : Nat → Nat) (v j : Nat) : List Nat := (List.range j).filter fun i => decide (f i = v)
def nI (L : List Nat) : List Int := L.map fun i : Nat => (i : Int)
theorem nI_snoc (L : List Nat) (i : Nat) : (nI (L ++ [i])).flatMap inC = (nI L).flatMap inC ++ [.int .i64 (i : Int)] := by
  unfold nI
  rw [List.map_append, List.flatMap_append]
  rfl
theorem atL_hit {f : Nat → Nat} {v j : Nat} (h : f j = v) : atL f v (j + 1) = atL f v j ++ [j] := by
  unfold atL
  rw [List.range_succ, List.filter_append]
  simp [h]
theorem atL_miss {f : Nat → Nat} {v j : Nat} (h : f j ≠ v) : atL f v (j + 1) = atL f v j := by
  unfold atL
  rw [List.range_succ, List.filter_append]
  simp [h]
theorem atL_le (f : Nat → Nat) (v j : Nat) : (atL f v j).length ≤ j := by
  have := List.length_filter_le (fun i => decide (f i = v)) (List.range j)
  rwa [List.length_range] at this
theorem ordU_done {f : Nat → Nat} {n v : Nat} (hf : ∀ i < n, f i < n) (h : n ≤ (ordU f n v).length) : ordU f n v = ordU f n n := by
  rw [ordU_len] at h
  have h1 : ∀ i < n, f i < v := by
    have key : ∀ m, m ≤ Cn (fun i => decide (f i < v)) m → ∀ i < m, f i < v := by
      intro m
      induction m with
      | zero => intro _ i hi; omega
      | succ m ih =>
        intro h i hi
        rw [Cn_succ] at h
        have hle := Cn_le_n (fun i => decide (f i < v)) m
        by_cases hm : f m < v
        · simp only [hm, decide_true, if_true] at h
          by_cases e : i = m
          · subst e; exact hm
          · exact ih (by omega) i (by omega)
        · simp only [hm, decide_false, Bool.false_eq_true, if_false] at h
          omega
    exact key n h
  have a := ordU_eq f n h1 n
  have b := ordU_eq f n hf v
  rw [← a, Nat.add_comm v n, b]
theorem ordU_top {f : Nat → Nat} {n v : Nat} (hf : ∀ i < n, f i < n) (h : (ordU f n v).length < n) : v < n := by
  rcases Nat.lt_or_ge v n with h1 | h1
  · exact h1
  · exfalso
    rw [ordU_len] at h
    unfold Lt at h
    rw [Cn_all fun i hi => by have := hf i hi; simp; omega] at h
    omega
theorem lev_facts {N : List Nd} {I O : List Pt} {d : Option (List Nat)} {e : Int} (hl : levelS N I O = (d, e)) : ∀ i < (d.getD []).length, (d.getD []).getD i 0 < (d.getD []).length := by
  intro i hi
  cases d with
  | none => exact absurd hi (by simp)
  | some d =>
    have hd : levS N = some d := by
      unfold levelS at hl
      split at hl
      · injection hl with h2 h3
        cases h2
      · split at hl
        · rename_i dd hdd
          injection hl with h2 h3
          injection h2 with h2
          subst h2
          exact hdd
        · injection hl with h2 h3
          cases h2
    obtain ⟨h1, h2⟩ := levS_some hd
    simp only [Option.getD_some] at hi ⊢
    have := all_lt h2 (show i < N.length by omega)
    omega
theorem ordO_is (d : Option (List Nat)) : ordO d = nI (ordU (fun i => (d.getD []).getD i 0) (d.getD []).length (d.getD []).length) := by
  cases d with
  | none => rfl
  | some d => rfl
/-- the row of what is told by now. -/
def Row (w : World) (B : Nat) (v : Value) (L : List Nat) : Prop := w.ownsRow B 3 1 v L.length ((nI L).flatMap inC)
end Go.Proofs.Ytcfmgoilncninaa
