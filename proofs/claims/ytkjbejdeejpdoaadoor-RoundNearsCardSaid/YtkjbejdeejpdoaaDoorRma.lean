
/-
  Plain mathematics of rounding: nothing of a program. Sizes in units of 2^-40000; bits of sign 0 as numbers c, whose sizes rise with c without end (valU).
-/
import Derived.Test.YtkjbejdeejpdoaaDoorFval
namespace Go.Proofs.YtkjbejdeejpdoaaDoor
open Go.RowKit
set_option linter.unusedVariables false

/-- the width of the cell above c, and the size of c, if there were no greatest number. -/
def wid (M : Nat) (low : Int) (c : Nat) : Nat := 2 ^ (low + (max (c / M) 1 : Nat) - 1 + 40000).toNat
def valU (M : Nat) (low : Int) (c : Nat) : Nat := (if c / M = 0 then c % M else M + c % M) * wid M low c
theorem wid_pos (M : Nat) (low : Int) (c : Nat) : 0 < wid M low c := Nat.two_pow_pos _

section
variable {B P W M E H : Nat} {low : Int}
theorem valU_valV (hf : Fm B P W M E H low) (c : Nat) (hc : c < H) : valV M E low c = valU M low c := by
  unfold valV valU wid valN valP
  rw [(fields hf c hc).1]
  by_cases h : c / M = 0
  · rw [if_pos h, if_pos h, h, show (low + ((max 0 1 : Nat) : Int) - 1 + 40000).toNat = (low + 40000).toNat by simp]
  · rw [if_neg h, if_neg h, show max (c / M) 1 = c / M from Nat.max_eq_left (Nat.pos_of_ne_zero h)]
theorem valU_step (hf : Fm B P W M E H low) (b : Nat) : valU M low (b + 1) = valU M low b + wid M low b := by
  obtain ⟨b1, b2, b3, b4, b5, b6, b7, b8, b9, b10, b11, b12, b13, b14, b15⟩ := hf.bd
  have hM : 0 < M := by omega
  have f3 : b = b / M * M + b % M := by rw [Nat.mul_comm]; exact (Nat.div_add_mod b M).symm
  have f5 : b % M < M := Nat.mod_lt _ hM
  unfold valU wid
  by_cases c : b % M + 1 = M
  · have d1 : b + 1 = (b / M + 1) * M := by rw [Nat.add_mul, Nat.one_mul]; omega
    have d2 : (b + 1) / M = b / M + 1 := by rw [d1, Nat.mul_div_cancel _ hM]
    have d3 : (b + 1) % M = 0 := by rw [d1, Nat.mul_mod_left]
    have d4 : b % M = M - 1 := by omega
    rw [d2, d3, d4]
    generalize b / M = x at *
    rw [if_neg (by omega), show max (x + 1) 1 = x + 1 by omega]
    by_cases x0 : x = 0
    · subst x0
      rw [if_pos rfl, show (low + ((0 + 1 : Nat) : Int) - 1 + 40000).toNat = (low + 40000).toNat by omega, show (low + ((max 0 1 : Nat) : Int) - 1 + 40000).toNat = (low + 40000).toNat by simp]
      have : M + 0 = (M - 1) + 1 := by omega
      rw [this, Nat.add_mul, Nat.one_mul]
    · rw [if_neg x0, show max x 1 = x by omega, show (low + ((x + 1 : Nat) : Int) - 1 + 40000).toNat = (low + (x : Int) - 1 + 40000).toNat + 1 by omega, Nat.pow_succ]
      generalize 2 ^ (low + (x : Int) - 1 + 40000).toNat = T
      rw [show M + (M - 1) = 2 * M - 1 by omega, Nat.add_zero]
      have : (2 * M - 1) * T + T = 2 * M * T := by rw [show 2 * M * T = (2 * M - 1 + 1) * T by congr 1; omega, Nat.add_mul, Nat.one_mul]
      rw [this]
      ac_rfl
  · have d1 : b + 1 = b / M * M + (b % M + 1) := by omega
    have d2 : (b + 1) / M = b / M := by rw [d1, Nat.add_comm, Nat.add_mul_div_right _ _ hM, Nat.div_eq_of_lt (by omega), Nat.zero_add]
    have d3 : (b + 1) % M = b % M + 1 := by rw [d1, Nat.add_comm, Nat.add_mul_mod_self_right, Nat.mod_eq_of_lt (by omega)]
    rw [d2, d3]
    generalize b / M = x at *
    by_cases x0 : x = 0
    · rw [if_pos x0, if_pos x0, Nat.add_mul, Nat.one_mul]
    · rw [if_neg x0, if_neg x0, ← Nat.add_assoc, Nat.add_mul (M + b % M), Nat.one_mul]
theorem valU_lt (hf : Fm B P W M E H low) (a : Nat) : ∀ k : Nat, valU M low a < valU M low (a + k + 1)
  | 0 => by rw [Nat.add_zero, valU_step hf a]; have := wid_pos M low a; omega
  | k + 1 => by
    have h1 := valU_lt hf a k
    have h2 := valU_step hf (a + (k + 1))
    have := wid_pos M low (a + (k + 1))
    rw [show a + k + 1 = a + (k + 1) by omega] at h1
    omega
theorem valU_mono (hf : Fm B P W M E H low) {a b : Nat} : (valU M low a < valU M low b ↔ a < b) ∧ (valU M low a ≤ valU M low b ↔ a ≤ b) := by
  have key : ∀ a b, a < b → valU M low a < valU M low b := fun a b h => by
    have := valU_lt hf a (b - a - 1)
    rw [show a + (b - a - 1) + 1 = b by omega] at this
    exact this
  constructor
  · constructor
    · intro h
      rcases Nat.lt_trichotomy a b with h1 | h1 | h1
      · exact h1
      · subst h1; omega
      · have := key b a h1; omega
    · exact key a b
  · constructor
    · intro h
      rcases Nat.lt_or_ge b a with h1 | h1
      · have := key b a h1; omega
      · exact h1
    · intro h
      rcases Nat.lt_or_ge a b with h1 | h1
      · have := key a b h1; omega
      · rw [show a = b by omega]; exact Nat.le_refl _
theorem valU_zero (hf : Fm B P W M E H low) : valU M low 0 = 0 := by
  unfold valU
  rw [Nat.zero_div, if_pos rfl, Nat.zero_mod, Nat.zero_mul]

/-- the place of a size, and what stands below it. -/
def cellP (P : Nat) (low : Int) (A : Nat) : Int := max ((blen A : Int) - 40000 - (P : Int)) low
def flC (P M : Nat) (low : Int) (A : Nat) : Nat := (cellP P low A - low).toNat * M + A / 2 ^ (cellP P low A + 40000).toNat
theorem valU_make (hf : Fm B P W M E H low) (k n : Nat) (hn : n < 2 * M) (hk : k = 0 ∨ M ≤ n) : valU M low (k * M + n) = n * 2 ^ (low + (k : Int) + 40000).toNat ∧ wid M low (k * M + n) = 2 ^ (low + (k : Int) + 40000).toNat := by
  obtain ⟨b1, b2, b3, b4, b5, b6, b7, b8, b9, b10, b11, b12, b13, b14, b15⟩ := hf.bd
  have hM : 0 < M := by omega
  unfold valU wid
  by_cases c : n < M
  · obtain rfl : k = 0 := by omega
    rw [Nat.zero_mul, Nat.zero_add, Nat.div_eq_of_lt c, if_pos rfl, Nat.mod_eq_of_lt c, show (low + ((max 0 1 : Nat) : Int) - 1 + 40000).toNat = (low + ((0 : Nat) : Int) + 40000).toNat by simp]
    exact ⟨rfl, rfl⟩
  · have e : k * M + n = (n - M) + M * (k + 1) := by rw [Nat.mul_add, Nat.mul_one, Nat.mul_comm]; omega
    have d2 : (k * M + n) / M = k + 1 := by rw [e, Nat.add_mul_div_left _ _ hM, Nat.div_eq_of_lt (by omega), Nat.zero_add]
    have d3 : (k * M + n) % M = n - M := by rw [e, Nat.add_mul_mod_self_left, Nat.mod_eq_of_lt (by omega)]
    rw [d2, d3, if_neg (by omega), show M + (n - M) = n by omega, show max (k + 1) 1 = k + 1 by omega, show (low + ((k + 1 : Nat) : Int) - 1 + 40000).toNat = (low + (k : Int) + 40000).toNat by omega]
    exact ⟨rfl, rfl⟩
theorem flC_spec (hf : Fm B P W M E H low) (A : Nat) : valU M low (flC P M low A) = A / 2 ^ (cellP P low A + 40000).toNat * 2 ^ (cellP P low A + 40000).toNat ∧ wid M low (flC P M low A) = 2 ^ (cellP P low A + 40000).toNat := by
  obtain ⟨b1, b2, b3, b4, b5, b6, b7, b8, b9, b10, b11, b12, b13, b14, b15⟩ := hf.bd
  obtain ⟨p, hp⟩ : ∃ p, cellP P low A = p := ⟨_, rfl⟩
  have hp1 : low ≤ p := by rw [← hp]; unfold cellP; omega
  have hp2 : (blen A : Int) - 40000 - (P : Int) ≤ p := by rw [← hp]; unfold cellP; omega
  obtain ⟨k, hk⟩ := Int.eq_ofNat_of_zero_le (show 0 ≤ p - low by omega)
  obtain ⟨s, hs⟩ : ∃ s, (p + 40000).toNat = s := ⟨_, rfl⟩
  have hn : A / 2 ^ s < 2 * M := by
    rw [Nat.div_lt_iff_lt_mul (Nat.two_pow_pos _), ← hf.pP, show 2 * 2 ^ (P - 1) = 2 ^ P by rw [Nat.mul_comm, ← Nat.pow_succ]; congr 1; omega, ← Nat.pow_add]
    exact (blen_le A (P + s)).1 (by omega)
  have hk2 : k = 0 ∨ M ≤ A / 2 ^ s := by
    rcases Nat.eq_zero_or_pos k with h | h
    · exact .inl h
    · right
      have hp3 : (blen A : Int) - 40000 - (P : Int) = p := by rw [← hp] at hk ⊢; unfold cellP at hk ⊢; omega
      have hA : A ≠ 0 := by
        intro h0
        rw [h0, blen_zero] at hp3
        omega
      rw [Nat.le_div_iff_mul_le (Nat.two_pow_pos _), ← hf.pP, ← Nat.pow_add]
      have h1 := (blen_pos hA).1
      rw [show P - 1 + s = blen A - 1 by omega]
      exact h1
  unfold flC
  rw [hp, hs, hk, Int.toNat_natCast]
  have := valU_make hf k (A / 2 ^ s) hn hk2
  rw [show (low + (k : Int) + 40000).toNat = s by omega] at this
  exact this
theorem flC_cell (hf : Fm B P W M E H low) (A : Nat) : valU M low (flC P M low A) ≤ A ∧ A < valU M low (flC P M low A + 1) := by
  obtain ⟨h1, h2⟩ := flC_spec hf A
  rw [valU_step hf, h1, h2]
  generalize (cellP P low A + 40000).toNat = s
  have h3 := Nat.div_add_mod A (2 ^ s)
  have h4 := Nat.mod_lt A (Nat.two_pow_pos s)
  rw [Nat.mul_comm] at h3
  omega
theorem flC_unique (hf : Fm B P W M E H low) {A c : Nat} (h1 : valU M low c ≤ A) (h2 : A < valU M low (c + 1)) : flC P M low A = c := by
  obtain ⟨g1, g2⟩ := flC_cell hf A
  have k1 := (valU_mono hf (a := c) (b := flC P M low A + 1)).1.1 (by omega)
  have k2 := (valU_mono hf (a := flC P M low A) (b := c + 1)).1.1 (by omega)
  omega
theorem le_flC (hf : Fm B P W M E H low) {A c : Nat} : c ≤ flC P M low A ↔ valU M low c ≤ A := by
  obtain ⟨g1, g2⟩ := flC_cell hf A
  constructor
  · intro h
    have := (valU_mono hf (a := c) (b := flC P M low A)).2.2 h
    omega
  · intro h
    have := (valU_mono hf (a := c) (b := flC P M low A + 1)).1.1 (by omega)
    omega

/-- is it rounded away from 0? c: the bits below, r: what is lost, U: the cell's width. -/
def upB (mode : Int) (neg : Bool) (c r U : Nat) : Bool :=
  if r = 0 then false else if mode = 0 then decide (U < 2 * r ∨ (2 * r = U ∧ c % 2 = 1)) else if mode = 2 then neg else if mode = 3 then !neg else if mode = 4 then decide (U ≤ 2 * r) else false
/-- the bits to which a size is rounded, if there were no greatest number. -/
def rC (P M : Nat) (low : Int) (mode : Int) (neg : Bool) (A : Nat) : Nat :=
  flC P M low A + if upB mode neg (flC P M low A) (A - valU M low (flC P M low A)) (wid M low (flC P M low A)) then 1 else 0
theorem rC_cases (P M : Nat) (low : Int) (mode : Int) (neg : Bool) (A : Nat) : flC P M low A ≤ rC P M low mode neg A ∧ rC P M low mode neg A ≤ flC P M low A + 1 := by
  unfold rC; split <;> omega
theorem upB_mono {mode : Int} {neg : Bool} {c r r' U : Nat} (h : r ≤ r') (hu : upB mode neg c r U = true) : upB mode neg c r' U = true := by
  unfold upB at hu ⊢
  by_cases h0 : r = 0
  · rw [if_pos h0] at hu; cases hu
  · rw [if_neg h0] at hu
    rw [if_neg (by omega)]
    by_cases m0 : mode = 0
    · rw [if_pos m0, decide_eq_true_eq] at hu ⊢
      omega
    · rw [if_neg m0] at hu ⊢
      by_cases m2 : mode = 2
      · rw [if_pos m2] at hu ⊢; exact hu
      · rw [if_neg m2] at hu ⊢
        by_cases m3 : mode = 3
        · rw [if_pos m3] at hu ⊢; exact hu
        · rw [if_neg m3] at hu ⊢
          by_cases m4 : mode = 4
          · rw [if_pos m4, decide_eq_true_eq] at hu ⊢; omega
          · rw [if_neg m4] at hu; cases hu
/-- A GREATER SIZE IS NEVER ROUNDED TO LESSER BITS. -/
theorem rC_mono (hf : Fm B P W M E H low) (mode : Int) (neg : Bool) {A A' : Nat} (h : A ≤ A') : rC P M low mode neg A ≤ rC P M low mode neg A' := by
  have h1 : flC P M low A ≤ flC P M low A' := (le_flC hf).2 (Nat.le_trans (flC_cell hf A).1 h)
  rcases Nat.lt_or_ge (flC P M low A) (flC P M low A') with h2 | h2
  · have := (rC_cases P M low mode neg A).2
    have := (rC_cases P M low mode neg A').1
    omega
  · have e : flC P M low A = flC P M low A' := by omega
    unfold rC
    rw [← e]
    split
    · rename_i hu
      rw [if_pos (upB_mono (by omega) hu)]
      exact Nat.le_refl _
    · omega
/-- towards 0, of numbers beyond. -/
def tow0 (mode : Int) (neg : Bool) : Bool := mode == 1 || (mode == 2 && !neg) || (mode == 3 && neg)
def capC (M E : Nat) (mode : Int) (neg : Bool) (c : Nat) : Nat := if c < M * E then c else if tow0 mode neg then M * E - 1 else M * E
theorem capC_mono (hf : Fm B P W M E H low) (mode : Int) (neg : Bool) {c c' : Nat} (h : c ≤ c') : capC M E mode neg c ≤ capC M E mode neg c' := by
  unfold capC
  by_cases h1 : c' < M * E
  · rw [if_pos h1, if_pos (by omega)]; exact h
  · rw [if_neg h1]
    by_cases h2 : c < M * E
    · rw [if_pos h2]; split <;> omega
    · rw [if_neg h2]; exact Nat.le_refl _
theorem capC_le (M E : Nat) (mode : Int) (neg : Bool) (c : Nat) : capC M E mode neg c ≤ M * E := by
  unfold capC; split
  · omega
  · split <;> omega
/-- the bits of a size, rounded. -/
def rndC (P M E : Nat) (low : Int) (mode : Int) (neg : Bool) (A : Nat) : Nat := capC M E mode neg (rC P M low mode neg A)
theorem rndC_mono (hf : Fm B P W M E H low) (mode : Int) (neg : Bool) {A A' : Nat} (h : A ≤ A') : rndC P M E low mode neg A ≤ rndC P M E low mode neg A' :=
  capC_mono hf mode neg (rC_mono hf mode neg h)
/-- WHAT IS A NUMBER OF THE FORMAT is rounded to itself. -/
theorem fl_val (hf : Fm B P W M E H low) (c : Nat) : flC P M low (valU M low c) = c :=
  flC_unique hf (Nat.le_refl _) (by rw [valU_step hf]; have := wid_pos M low c; omega)
theorem rC_val (hf : Fm B P W M E H low) (mode : Int) (neg : Bool) (c : Nat) : rC P M low mode neg (valU M low c) = c := by
  unfold rC
  rw [fl_val hf c, Nat.sub_self]
  unfold upB
  rw [if_pos rfl]
  rfl
theorem rndC_val (hf : Fm B P W M E H low) (mode : Int) (neg : Bool) (c : Nat) (hc : c < M * E) : rndC P M E low mode neg (valU M low c) = c := by
  unfold rndC capC
  rw [rC_val hf, if_pos hc]
/-- OF THE OTHER SIGN, Down and Up changing places. -/
def othM (mode : Int) : Int := if mode = 2 then 3 else if mode = 3 then 2 else mode
theorem upB_turn (mode : Int) (neg : Bool) (c r U : Nat) : upB (othM mode) (!neg) c r U = upB mode neg c r U := by
  unfold upB othM
  by_cases m2 : mode = 2
  · subst m2; simp
  · by_cases m3 : mode = 3
    · subst m3; simp
    · rw [if_neg m2, if_neg m3, if_neg m2, if_neg m3, if_neg m2, if_neg m3]
theorem tow0_turn (mode : Int) (neg : Bool) : tow0 (othM mode) (!neg) = tow0 mode neg := by
  unfold tow0 othM
  by_cases m2 : mode = 2
  · subst m2; cases neg <;> rfl
  · by_cases m3 : mode = 3
    · subst m3; cases neg <;> rfl
    · rw [if_neg m2, if_neg m3]
      have e2 : (mode == 2) = false := by simpa using m2
      have e3 : (mode == 3) = false := by simpa using m3
      rw [e2, e3]
      rfl
theorem rndC_turn (P M E : Nat) (low : Int) (mode : Int) (neg : Bool) (A : Nat) : rndC P M E low (othM mode) (!neg) A = rndC P M E low mode neg A ∧ rC P M low (othM mode) (!neg) A = rC P M low mode neg A := by
  unfold rndC rC capC
  simp only [upB_turn, tow0_turn]
  exact ⟨trivial, trivial⟩
/-- LESS THAN A PLACE AWAY, by Even and Away half a place at most. -/
theorem rC_half (hf : Fm B P W M E H low) (mode : Int) (neg : Bool) (A : Nat) :
    A < valU M low (rC P M low mode neg A) + wid M low (flC P M low A) ∧ valU M low (rC P M low mode neg A) < A + wid M low (flC P M low A) ∧
    (mode = 0 ∨ mode = 4 → 2 * A ≤ 2 * valU M low (rC P M low mode neg A) + wid M low (flC P M low A) ∧ 2 * valU M low (rC P M low mode neg A) ≤ 2 * A + wid M low (flC P M low A)) := by
  obtain ⟨g1, g2⟩ := flC_cell hf A
  have hs := valU_step hf (flC P M low A)
  have hw := wid_pos M low (flC P M low A)
  unfold rC
  split
  · rename_i hu
    rw [hs]
    rw [hs] at g2
    generalize valU M low (flC P M low A) = v at *
    generalize wid M low (flC P M low A) = U at *
    unfold upB at hu
    by_cases h0 : A - v = 0
    · rw [if_pos h0] at hu; cases hu
    · rw [if_neg h0] at hu
      refine ⟨by omega, by omega, fun hm => ?_⟩
      rcases hm with hm | hm
      · rw [if_pos hm, decide_eq_true_eq] at hu; omega
      · rw [if_neg (by omega), if_neg (by omega), if_neg (by omega), if_pos hm, decide_eq_true_eq] at hu; omega
  · rename_i hu
    rw [Nat.add_zero]
    rw [hs] at g2
    generalize valU M low (flC P M low A) = v at *
    generalize wid M low (flC P M low A) = U at *
    refine ⟨by omega, by omega, fun hm => ?_⟩
    unfold upB at hu
    by_cases h0 : A - v = 0
    · omega
    · rw [if_neg h0] at hu
      rcases hm with hm | hm
      · rw [if_pos hm, decide_eq_true_eq] at hu; omega
      · rw [if_neg (by omega), if_neg (by omega), if_neg (by omega), if_pos hm, decide_eq_true_eq] at hu; omega
/-- the directed modes: towards 0, and away from it. -/
theorem rC_down (hf : Fm B P W M E H low) {mode : Int} {neg : Bool} (h : mode = 1 ∨ (mode = 2 ∧ neg = false) ∨ (mode = 3 ∧ neg = true)) (A : Nat) : rC P M low mode neg A = flC P M low A := by
  have : upB mode neg (flC P M low A) (A - valU M low (flC P M low A)) (wid M low (flC P M low A)) = false := by
    unfold upB
    rcases h with rfl | ⟨rfl, rfl⟩ | ⟨rfl, rfl⟩ <;> simp
  unfold rC
  rw [this]
  rfl
theorem rC_up (hf : Fm B P W M E H low) {mode : Int} {neg : Bool} (h : (mode = 2 ∧ neg = true) ∨ (mode = 3 ∧ neg = false)) {A c : Nat} : rC P M low mode neg A ≤ c ↔ A ≤ valU M low c := by
  obtain ⟨g1, g2⟩ := flC_cell hf A
  have hu : upB mode neg (flC P M low A) (A - valU M low (flC P M low A)) (wid M low (flC P M low A)) = !decide (A - valU M low (flC P M low A) = 0) := by
    unfold upB
    by_cases h0 : A - valU M low (flC P M low A) = 0
    · rw [if_pos h0, decide_eq_true h0]; rfl
    · rw [if_neg h0, decide_eq_false h0]
      rcases h with ⟨rfl, rfl⟩ | ⟨rfl, rfl⟩ <;> simp
  unfold rC
  rw [hu]
  by_cases h0 : A - valU M low (flC P M low A) = 0
  · rw [decide_eq_true h0]
    show flC P M low A + 0 ≤ c ↔ _
    rw [Nat.add_zero, ← (valU_mono hf).2]
    omega
  · rw [decide_eq_false h0]
    show flC P M low A + 1 ≤ c ↔ _
    constructor
    · intro hc
      have := (valU_mono hf (a := flC P M low A + 1) (b := c)).2.2 hc
      omega
    · intro hc
      have := (valU_mono hf (a := flC P M low A) (b := c)).1.1 (by omega)
      omega
end
end Go.Proofs.YtkjbejdeejpdoaaDoor
