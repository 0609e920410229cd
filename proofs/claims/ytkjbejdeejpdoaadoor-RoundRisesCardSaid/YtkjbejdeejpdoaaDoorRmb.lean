
/-
  Plain mathematics of rounding, with signs: order, sides, twice; numbers and their bits.
-/
import Derived.Test.YtkjbejdeejpdoaaDoorRma
namespace Go.Proofs.YtkjbejdeejpdoaaDoor
open Go.RowKit
set_option linter.unusedVariables false

section
variable {B P W M E H : Nat} {low : Int}
/-- the number of bits c of a sign, those that are infinite being BIG. -/
def szC (M E : Nat) (low : Int) (BIG : Nat) (c : Nat) : Nat := if c = M * E then BIG else valU M low c
def svl (M E : Nat) (low : Int) (BIG : Nat) (neg : Bool) (c : Nat) : Int := if neg then -(szC M E low BIG c : Int) else (szC M E low BIG c : Int)
/-- a number z, rounded. -/
def rndZ (P M E : Nat) (low : Int) (BIG : Nat) (mode : Int) (z : Int) : Int := svl M E low BIG (decide (z < 0)) (rndC P M E low mode (decide (z < 0)) z.natAbs)
theorem szC_mono (hf : Fm B P W M E H low) {BIG : Nat} (hB : valU M low (M * E) ≤ BIG) {c c' : Nat} (h : c ≤ c') (h' : c' ≤ M * E) : szC M E low BIG c ≤ szC M E low BIG c' := by
  unfold szC
  by_cases h1 : c' = M * E
  · rw [if_pos h1]
    split
    · exact Nat.le_refl _
    · exact Nat.le_trans ((valU_mono hf).2.2 (by omega)) hB
  · rw [if_neg h1, if_neg (by omega)]
    exact (valU_mono hf).2.2 h
theorem rndZ_neg (P M E : Nat) (low : Int) (BIG : Nat) (mode : Int) {z : Int} (h : z < 0) : rndZ P M E low BIG mode z = -(szC M E low BIG (rndC P M E low mode true z.natAbs) : Int) := by
  unfold rndZ svl
  rw [decide_eq_true h]
  rfl
theorem rndZ_pos (P M E : Nat) (low : Int) (BIG : Nat) (mode : Int) {z : Int} (h : ¬ z < 0) : rndZ P M E low BIG mode z = (szC M E low BIG (rndC P M E low mode false z.natAbs) : Int) := by
  unfold rndZ svl
  rw [decide_eq_false h]
  rfl
/-- A GREATER NUMBER IS NEVER ROUNDED TO A LESSER ONE. -/
theorem rndZ_mono (hf : Fm B P W M E H low) {BIG : Nat} (hB : valU M low (M * E) ≤ BIG) (mode : Int) {z z' : Int} (h : z ≤ z') : rndZ P M E low BIG mode z ≤ rndZ P M E low BIG mode z' := by
  by_cases h1 : z < 0
  · rw [rndZ_neg P M E low BIG mode h1]
    by_cases h2 : z' < 0
    · rw [rndZ_neg P M E low BIG mode h2]
      have := szC_mono hf hB (rndC_mono (E := E) hf mode true (show z'.natAbs ≤ z.natAbs by omega)) (capC_le M E mode true _)
      omega
    · rw [rndZ_pos P M E low BIG mode h2]
      omega
  · rw [rndZ_pos P M E low BIG mode h1, rndZ_pos P M E low BIG mode (show ¬ z' < 0 by omega)]
    have := szC_mono hf hB (rndC_mono (E := E) hf mode false (show z.natAbs ≤ z'.natAbs by omega)) (capC_le M E mode false _)
    omega
/-- towards 0: no greater in size. -/
theorem rnd_size_le (hf : Fm B P W M E H low) {BIG : Nat} {mode : Int} {neg : Bool} (h : mode = 1 ∨ (mode = 2 ∧ neg = false) ∨ (mode = 3 ∧ neg = true)) (A : Nat) : szC M E low BIG (rndC P M E low mode neg A) ≤ A := by
  have hb := hf.bd
  have ht : tow0 mode neg = true := by
    unfold tow0
    rcases h with rfl | ⟨rfl, rfl⟩ | ⟨rfl, rfl⟩ <;> rfl
  have hME : 0 < M * E := Nat.mul_pos (by omega) (by omega)
  unfold rndC capC
  rw [rC_down hf h, ht]
  have h1 := (flC_cell hf A).1
  by_cases h2 : flC P M low A < M * E
  · rw [if_pos h2]
    unfold szC
    rw [if_neg (by omega)]
    exact h1
  · rw [if_neg h2, if_pos rfl]
    unfold szC
    rw [if_neg (by omega)]
    exact Nat.le_trans ((valU_mono hf).2.2 (by omega)) h1
/-- away from 0: no less in size. -/
theorem rnd_size_ge (hf : Fm B P W M E H low) {BIG : Nat} {mode : Int} {neg : Bool} (h : (mode = 2 ∧ neg = true) ∨ (mode = 3 ∧ neg = false)) {A : Nat} (hA : A ≤ BIG) : A ≤ szC M E low BIG (rndC P M E low mode neg A) := by
  have hb := hf.bd
  have ht : tow0 mode neg = false := by
    unfold tow0
    rcases h with ⟨rfl, rfl⟩ | ⟨rfl, rfl⟩ <;> rfl
  unfold rndC capC
  rw [ht]
  by_cases h2 : rC P M low mode neg A < M * E
  · rw [if_pos h2]
    unfold szC
    rw [if_neg (by omega)]
    exact (rC_up hf h).1 (Nat.le_refl _)
  · rw [if_neg h2, if_neg (by decide)]
    unfold szC
    rw [if_pos rfl]
    exact hA
theorem rndZ_down (hf : Fm B P W M E H low) {BIG : Nat} {z : Int} (hz : z.natAbs ≤ BIG) : rndZ P M E low BIG 2 z ≤ z := by
  by_cases h : z < 0
  · rw [rndZ_neg P M E low BIG 2 h]
    have := rnd_size_ge (E := E) hf (mode := 2) (neg := true) (.inl ⟨rfl, rfl⟩) hz
    omega
  · rw [rndZ_pos P M E low BIG 2 h]
    have := rnd_size_le (E := E) hf (BIG := BIG) (mode := 2) (neg := false) (.inr (.inl ⟨rfl, rfl⟩)) z.natAbs
    omega
theorem rndZ_up (hf : Fm B P W M E H low) {BIG : Nat} {z : Int} (hz : z.natAbs ≤ BIG) : z ≤ rndZ P M E low BIG 3 z := by
  by_cases h : z < 0
  · rw [rndZ_neg P M E low BIG 3 h]
    have := rnd_size_le (E := E) hf (BIG := BIG) (mode := 3) (neg := true) (.inr (.inr ⟨rfl, rfl⟩)) z.natAbs
    omega
  · rw [rndZ_pos P M E low BIG 3 h]
    have := rnd_size_ge (E := E) hf (mode := 3) (neg := false) (.inr ⟨rfl, rfl⟩) hz
    omega
theorem rndZ_zero (hf : Fm B P W M E H low) {BIG : Nat} (z : Int) : (z < 0 → z ≤ rndZ P M E low BIG 1 z) ∧ (¬ z < 0 → rndZ P M E low BIG 1 z ≤ z) := by
  constructor
  · intro h
    rw [rndZ_neg P M E low BIG 1 h]
    have := rnd_size_le (E := E) hf (BIG := BIG) (mode := 1) (neg := true) (.inl rfl) z.natAbs
    omega
  · intro h
    rw [rndZ_pos P M E low BIG 1 h]
    have := rnd_size_le (E := E) hf (BIG := BIG) (mode := 1) (neg := false) (.inl rfl) z.natAbs
    omega

/-- what a narrower format has, a wider one has, too. -/
theorem repr {B' P' W' M' E' H' : Nat} {low' : Int} (hf : Fm B P W M E H low) (hg : Fm B' P' W' M' E' H' low') (hP : P ≤ P') (hl : low' ≤ low) (c : Nat) : valU M' low' (flC P' M' low' (valU M low c)) = valU M low c := by
  obtain ⟨b1, b2, b3, b4, b5, b6, b7, b8, b9, b10, b11, b12, b13, b14, b15⟩ := hf.bd
  obtain ⟨g1, g2, g3, g4, g5, g6, g7, g8, g9, g10, g11, g12, g13, g14, g15⟩ := hg.bd
  have hM : 0 < M := by omega
  rw [(flC_spec hg _).1]
  obtain ⟨n, s, hn, hs, hA⟩ : ∃ n s : Nat, n < 2 * M ∧ low + 40000 ≤ (s : Int) ∧ valU M low c = n * 2 ^ s := by
    unfold valU wid
    have h1 : c % M < M := Nat.mod_lt _ hM
    refine ⟨_, _, ?_, ?_, rfl⟩
    · split <;> omega
    · have : 1 ≤ max (c / M) 1 := Nat.le_max_right _ _
      omega
  have hbn : blen n ≤ P := (blen_le n P).2 (by
    have := hf.pP
    rw [show P = P - 1 + 1 by omega, Nat.pow_succ, this]; omega)
  obtain ⟨t, ht⟩ : ∃ t, (cellP P' low' (valU M low c) + 40000).toNat = t := ⟨_, rfl⟩
  rw [ht]
  have hts : t ≤ s ∨ n = 0 := by
    by_cases h0 : n = 0
    · exact .inr h0
    · left
      have h2 := blen_shift h0 s
      rw [← hA] at h2
      rw [← ht]
      unfold cellP
      omega
  rw [hA]
  rcases hts with hts | hts
  · rw [show s = (s - t) + t by omega, Nat.pow_add, ← Nat.mul_assoc, Nat.mul_div_cancel _ (Nat.two_pow_pos t)]
  · rw [hts, Nat.zero_mul, Nat.zero_div, Nat.zero_mul]
/-- TO A WIDER FORMAT FIRST, AND THEN TO THE NARROWER, towards 0. -/
theorem fl_nested {B' P' W' M' E' H' : Nat} {low' : Int} (hf : Fm B P W M E H low) (hg : Fm B' P' W' M' E' H' low') (hP : P ≤ P') (hl : low' ≤ low) (A : Nat) :
    flC P M low (valU M' low' (flC P' M' low' A)) = flC P M low A := by
  have key : ∀ c, c ≤ flC P M low (valU M' low' (flC P' M' low' A)) ↔ c ≤ flC P M low A := fun c => by
    rw [le_flC hf, le_flC hf, ← repr hf hg hP hl c, (valU_mono hg).2, le_flC hg]
  have h1 := (key _).1 (Nat.le_refl _)
  have h2 := (key _).2 (Nat.le_refl _)
  omega
/-- .. and away from it. -/
theorem up_nested {B' P' W' M' E' H' : Nat} {low' : Int} (hf : Fm B P W M E H low) (hg : Fm B' P' W' M' E' H' low') (hP : P ≤ P') (hl : low' ≤ low) {mode : Int} {neg : Bool} (h : (mode = 2 ∧ neg = true) ∨ (mode = 3 ∧ neg = false)) (A : Nat) :
    rC P M low mode neg (valU M' low' (rC P' M' low' mode neg A)) = rC P M low mode neg A := by
  have key : ∀ c, rC P M low mode neg (valU M' low' (rC P' M' low' mode neg A)) ≤ c ↔ rC P M low mode neg A ≤ c := fun c => by
    rw [rC_up hf h, rC_up hf h, ← repr hf hg hP hl c, (valU_mono hg).2, rC_up hg h]
  have h1 := (key _).1 (Nat.le_refl _)
  have h2 := (key _).2 (Nat.le_refl _)
  omega
theorem rndC_nested {B' P' W' M' E' H' : Nat} {low' : Int} (hf : Fm B P W M E H low) (hg : Fm B' P' W' M' E' H' low') (hP : P ≤ P') (hl : low' ≤ low) {mode : Int} (neg : Bool) (h : mode = 1 ∨ mode = 2 ∨ mode = 3) (A : Nat) :
    rndC P M E low mode neg (valU M' low' (rC P' M' low' mode neg A)) = rndC P M E low mode neg A := by
  unfold rndC
  congr 1
  by_cases h1 : mode = 1 ∨ (mode = 2 ∧ neg = false) ∨ (mode = 3 ∧ neg = true)
  · rw [rC_down hf h1, rC_down hf h1, rC_down hg h1]
    exact fl_nested hf hg hP hl A
  · exact up_nested hf hg hP hl (by
      cases neg <;> rcases h with rfl | rfl | rfl <;> simp_all) A
end
end Go.Proofs.YtkjbejdeejpdoaaDoor
