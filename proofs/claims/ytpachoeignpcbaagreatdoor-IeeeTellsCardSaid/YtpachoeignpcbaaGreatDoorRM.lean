/-
  Plain mathematics of rounding: nothing of a program. Sizes in units of 2^-40000; bits of sign 0 as numbers c, whose sizes rise with c without end (valU).
  Plain mathematics of rounding, with signs: order, sides, twice; numbers and their bits.
  Plain mathematics of rounding: exact numbers and their bits.
  What rounding tells, and what the laws of layer 4 make of it: nothing of a program.
  What the laws of layer 4 make of rounding: order, the other sign, half a place, twice: nothing of a program.
  What the laws of layer 4 make of rounding: half a place, twice: nothing of a program.
  Plain mathematics of the neighbours of a number, as exact numbers: nothing of a program.
  Rounding up, by what is lost against half a place; doubles.
-/
import Derived.Test.YtpachoeignpcbaaGreatDoorFval
namespace Go.Proofs.YtpachoeignpcbaaGreatDoor
open Go.RowKit
set_option linter.unusedVariables false

/-- the width of the cell above c, and the size of c, if there were no greatest number. -/
def wid (M : Nat) (low : Int) (c : Nat) : Nat := 2 ^ (low + (max (c / M) 1 : Nat) - 1 + 40000).toNat
def valU (M : Nat) (low : Int) (c : Nat) : Nat := (if c / M = 0 then c % M else M + c % M) * wid M low c
theorem wid_pos (M : Nat) (low : Int) (c : Nat) : 0 < wid M low c := Nat.two_pow_pos _

section
variable {B P W M E H : Nat} {low : Int}
theorem valU_valV (hf : Fm B P W M E H low) (c : Nat) (hc : c < H) : valV M E low c = valU M low c := by
  unfold valV valU wid valN valP
  rw [(fields hf c hc).1]
  by_cases h : c / M = 0
  · rw [if_pos h, if_pos h, h, show (low + ((max 0 1 : Nat) : Int) - 1 + 40000).toNat = (low + 40000).toNat by simp]
  · rw [if_neg h, if_neg h, show max (c / M) 1 = c / M from Nat.max_eq_left (Nat.pos_of_ne_zero h)]
theorem valU_step (hf : Fm B P W M E H low) (b : Nat) : valU M low (b + 1) = valU M low b + wid M low b := by
  obtain ⟨b1, b2, b3, b4, b5, b6, b7, b8, b9, b10, b11, b12, b13, b14, b15⟩ := hf.bd
  have hM : 0 < M := by omega
  have f3 : b = b / M * M + b % M := by rw [Nat.mul_comm]; exact (Nat.div_add_mod b M).symm
  have f5 : b % M < M := Nat.mod_lt _ hM
  unfold valU wid
  by_cases c : b % M + 1 = M
  · have d1 : b + 1 = (b / M + 1) * M := by rw [Nat.add_mul, Nat.one_mul]; omega
    have d2 : (b + 1) / M = b / M + 1 := by rw [d1, Nat.mul_div_cancel _ hM]
    have d3 : (b + 1) % M = 0 := by rw [d1, Nat.mul_mod_left]
    have d4 : b % M = M - 1 := by omega
    rw [d2, d3, d4]
    generalize b / M = x at *
    rw [if_neg (by omega), show max (x + 1) 1 = x + 1 by omega]
    by_cases x0 : x = 0
    · subst x0
      rw [if_pos rfl, show (low + ((0 + 1 : Nat) : Int) - 1 + 40000).toNat = (low + 40000).toNat by omega, show (low + ((max 0 1 : Nat) : Int) - 1 + 40000).toNat = (low + 40000).toNat by simp]
      have : M + 0 = (M - 1) + 1 := by omega
      rw [this, Nat.add_mul, Nat.one_mul]
    · rw [if_neg x0, show max x 1 = x by omega, show (low + ((x + 1 : Nat) : Int) - 1 + 40000).toNat = (low + (x : Int) - 1 + 40000).toNat + 1 by omega, Nat.pow_succ]
      generalize 2 ^ (low + (x : Int) - 1 + 40000).toNat = T
      rw [show M + (M - 1) = 2 * M - 1 by omega, Nat.add_zero]
      have : (2 * M - 1) * T + T = 2 * M * T := by rw [show 2 * M * T = (2 * M - 1 + 1) * T by congr 1; omega, Nat.add_mul, Nat.one_mul]
      rw [this]
      ac_rfl
  · have d1 : b + 1 = b / M * M + (b % M + 1) := by omega
    have d2 : (b + 1) / M = b / M := by rw [d1, Nat.add_comm, Nat.add_mul_div_right _ _ hM, Nat.div_eq_of_lt (by omega), Nat.zero_add]
    have d3 : (b + 1) % M = b % M + 1 := by rw [d1, Nat.add_comm, Nat.add_mul_mod_self_right, Nat.mod_eq_of_lt (by omega)]
    rw [d2, d3]
    generalize b / M = x at *
    by_cases x0 : x = 0
    · rw [if_pos x0, if_pos x0, Nat.add_mul, Nat.one_mul]
    · rw [if_neg x0, if_neg x0, ← Nat.add_assoc, Nat.add_mul (M + b % M), Nat.one_mul]
theorem valU_lt (hf : Fm B P W M E H low) (a : Nat) : ∀ k : Nat, valU M low a < valU M low (a + k + 1)
  | 0 => by rw [Nat.add_zero, valU_step hf a]; have := wid_pos M low a; omega
  | k + 1 => by
    have h1 := valU_lt hf a k
    have h2 := valU_step hf (a + (k + 1))
    have := wid_pos M low (a + (k + 1))
    rw [show a + k + 1 = a + (k + 1) by omega] at h1
    omega
theorem valU_mono (hf : Fm B P W M E H low) {a b : Nat} : (valU M low a < valU M low b ↔ a < b) ∧ (valU M low a ≤ valU M low b ↔ a ≤ b) := by
  have key : ∀ a b, a < b → valU M low a < valU M low b := fun a b h => by
    have := valU_lt hf a (b - a - 1)
    rw [show a + (b - a - 1) + 1 = b by omega] at this
    exact this
  constructor
  · constructor
    · intro h
      rcases Nat.lt_trichotomy a b with h1 | h1 | h1
      · exact h1
      · subst h1; omega
      · have := key b a h1; omega
    · exact key a b
  · constructor
    · intro h
      rcases Nat.lt_or_ge b a with h1 | h1
      · have := key b a h1; omega
      · exact h1
    · intro h
      rcases Nat.lt_or_ge a b with h1 | h1
      · have := key a b h1; omega
      · rw [show a = b by omega]; exact Nat.le_refl _
theorem valU_zero (hf : Fm B P W M E H low) : valU M low 0 = 0 := by
  unfold valU
  rw [Nat.zero_div, if_pos rfl, Nat.zero_mod, Nat.zero_mul]

/-- the place of a size, and what stands below it. -/
def cellP (P : Nat) (low : Int) (A : Nat) : Int := max ((blen A : Int) - 40000 - (P : Int)) low
def flC (P M : Nat) (low : Int) (A : Nat) : Nat := (cellP P low A - low).toNat * M + A / 2 ^ (cellP P low A + 40000).toNat
theorem valU_make (hf : Fm B P W M E H low) (k n : Nat) (hn : n < 2 * M) (hk : k = 0 ∨ M ≤ n) : valU M low (k * M + n) = n * 2 ^ (low + (k : Int) + 40000).toNat ∧ wid M low (k * M + n) = 2 ^ (low + (k : Int) + 40000).toNat := by
  obtain ⟨b1, b2, b3, b4, b5, b6, b7, b8, b9, b10, b11, b12, b13, b14, b15⟩ := hf.bd
  have hM : 0 < M := by omega
  unfold valU wid
  by_cases c : n < M
  · obtain rfl : k = 0 := by omega
    rw [Nat.zero_mul, Nat.zero_add, Nat.div_eq_of_lt c, if_pos rfl, Nat.mod_eq_of_lt c, show (low + ((max 0 1 : Nat) : Int) - 1 + 40000).toNat = (low + ((0 : Nat) : Int) + 40000).toNat by simp]
    exact ⟨rfl, rfl⟩
  · have e : k * M + n = (n - M) + M * (k + 1) := by rw [Nat.mul_add, Nat.mul_one, Nat.mul_comm]; omega
    have d2 : (k * M + n) / M = k + 1 := by rw [e, Nat.add_mul_div_left _ _ hM, Nat.div_eq_of_lt (by omega), Nat.zero_add]
    have d3 : (k * M + n) % M = n - M := by rw [e, Nat.add_mul_mod_self_left, Nat.mod_eq_of_lt (by omega)]
    rw [d2, d3, if_neg (by omega), show M + (n - M) = n by omega, show max (k + 1) 1 = k + 1 by omega, show (low + ((k + 1 : Nat) : Int) - 1 + 40000).toNat = (low + (k : Int) + 40000).toNat by omega]
    exact ⟨rfl, rfl⟩
theorem flC_spec (hf : Fm B P W M E H low) (A : Nat) : valU M low (flC P M low A) = A / 2 ^ (cellP P low A + 40000).toNat * 2 ^ (cellP P low A + 40000).toNat ∧ wid M low (flC P M low A) = 2 ^ (cellP P low A + 40000).toNat := by
  obtain ⟨b1, b2, b3, b4, b5, b6, b7, b8, b9, b10, b11, b12, b13, b14, b15⟩ := hf.bd
  obtain ⟨p, hp⟩ : ∃ p, cellP P low A = p := ⟨_, rfl⟩
  have hp1 : low ≤ p := by rw [← hp]; unfold cellP; omega
  have hp2 : (blen A : Int) - 40000 - (P : Int) ≤ p := by rw [← hp]; unfold cellP; omega
  obtain ⟨k, hk⟩ := Int.eq_ofNat_of_zero_le (show 0 ≤ p - low by omega)
  obtain ⟨s, hs⟩ : ∃ s, (p + 40000).toNat = s := ⟨_, rfl⟩
  have hn : A / 2 ^ s < 2 * M := by
    rw [Nat.div_lt_iff_lt_mul (Nat.two_pow_pos _), ← hf.pP, show 2 * 2 ^ (P - 1) = 2 ^ P by rw [Nat.mul_comm, ← Nat.pow_succ]; congr 1; omega, ← Nat.pow_add]
    exact (blen_le A (P + s)).1 (by omega)
  have hk2 : k = 0 ∨ M ≤ A / 2 ^ s := by
    rcases Nat.eq_zero_or_pos k with h | h
    · exact .inl h
    · right
      have hp3 : (blen A : Int) - 40000 - (P : Int) = p := by rw [← hp] at hk ⊢; unfold cellP at hk ⊢; omega
      have hA : A ≠ 0 := by
        intro h0
        rw [h0, blen_zero] at hp3
        omega
      rw [Nat.le_div_iff_mul_le (Nat.two_pow_pos _), ← hf.pP, ← Nat.pow_add]
      have h1 := (blen_pos hA).1
      rw [show P - 1 + s = blen A - 1 by omega]
      exact h1
  unfold flC
  rw [hp, hs, hk, Int.toNat_natCast]
  have := valU_make hf k (A / 2 ^ s) hn hk2
  rw [show (low + (k : Int) + 40000).toNat = s by omega] at this
  exact this
theorem flC_cell (hf : Fm B P W M E H low) (A : Nat) : valU M low (flC P M low A) ≤ A ∧ A < valU M low (flC P M low A + 1) := by
  obtain ⟨h1, h2⟩ := flC_spec hf A
  rw [valU_step hf, h1, h2]
  generalize (cellP P low A + 40000).toNat = s
  have h3 := Nat.div_add_mod A (2 ^ s)
  have h4 := Nat.mod_lt A (Nat.two_pow_pos s)
  rw [Nat.mul_comm] at h3
  omega
theorem flC_unique (hf : Fm B P W M E H low) {A c : Nat} (h1 : valU M low c ≤ A) (h2 : A < valU M low (c + 1)) : flC P M low A = c := by
  obtain ⟨g1, g2⟩ := flC_cell hf A
  have k1 := (valU_mono hf (a := c) (b := flC P M low A + 1)).1.1 (by omega)
  have k2 := (valU_mono hf (a := flC P M low A) (b := c + 1)).1.1 (by omega)
  omega
theorem le_flC (hf : Fm B P W M E H low) {A c : Nat} : c ≤ flC P M low A ↔ valU M low c ≤ A := by
  obtain ⟨g1, g2⟩ := flC_cell hf A
  constructor
  · intro h
    have := (valU_mono hf (a := c) (b := flC P M low A)).2.2 h
    omega
  · intro h
    have := (valU_mono hf (a := c) (b := flC P M low A + 1)).1.1 (by omega)
    omega

/-- is it rounded away from 0? c: the bits below, r: what is lost, U: the cell's width. -/
def upB (mode : Int) (neg : Bool) (c r U : Nat) : Bool :=
  if r = 0 then false else if mode = 0 then decide (U < 2 * r ∨ (2 * r = U ∧ c % 2 = 1)) else if mode = 2 then neg else if mode = 3 then !neg else if mode = 4 then decide (U ≤ 2 * r) else false
/-- the bits to which a size is rounded, if there were no greatest number. -/
def rC (P M : Nat) (low : Int) (mode : Int) (neg : Bool) (A : Nat) : Nat :=
  flC P M low A + if upB mode neg (flC P M low A) (A - valU M low (flC P M low A)) (wid M low (flC P M low A)) then 1 else 0
theorem rC_cases (P M : Nat) (low : Int) (mode : Int) (neg : Bool) (A : Nat) : flC P M low A ≤ rC P M low mode neg A ∧ rC P M low mode neg A ≤ flC P M low A + 1 := by
  unfold rC; split <;> omega
theorem upB_mono {mode : Int} {neg : Bool} {c r r' U : Nat} (h : r ≤ r') (hu : upB mode neg c r U = true) : upB mode neg c r' U = true := by
  unfold upB at hu ⊢
  by_cases h0 : r = 0
  · rw [if_pos h0] at hu; cases hu
  · rw [if_neg h0] at hu
    rw [if_neg (by omega)]
    by_cases m0 : mode = 0
    · rw [if_pos m0, decide_eq_true_eq] at hu ⊢
      omega
    · rw [if_neg m0] at hu ⊢
      by_cases m2 : mode = 2
      · rw [if_pos m2] at hu ⊢; exact hu
      · rw [if_neg m2] at hu ⊢
        by_cases m3 : mode = 3
        · rw [if_pos m3] at hu ⊢; exact hu
        · rw [if_neg m3] at hu ⊢
          by_cases m4 : mode = 4
          · rw [if_pos m4, decide_eq_true_eq] at hu ⊢; omega
          · rw [if_neg m4] at hu; cases hu
/-- A GREATER SIZE IS NEVER ROUNDED TO LESSER BITS. -/
theorem rC_mono (hf : Fm B P W M E H low) (mode : Int) (neg : Bool) {A A' : Nat} (h : A ≤ A') : rC P M low mode neg A ≤ rC P M low mode neg A' := by
  have h1 : flC P M low A ≤ flC P M low A' := (le_flC hf).2 (Nat.le_trans (flC_cell hf A).1 h)
  rcases Nat.lt_or_ge (flC P M low A) (flC P M low A') with h2 | h2
  · have := (rC_cases P M low mode neg A).2
    have := (rC_cases P M low mode neg A').1
    omega
  · have e : flC P M low A = flC P M low A' := by omega
    unfold rC
    rw [← e]
    split
    · rename_i hu
      rw [if_pos (upB_mono (by omega) hu)]
      exact Nat.le_refl _
    · omega
/-- towards 0, of numbers beyond. -/
def tow0 (mode : Int) (neg : Bool) : Bool := mode == 1 || (mode == 2 && !neg) || (mode == 3 && neg)
def capC (M E : Nat) (mode : Int) (neg : Bool) (c : Nat) : Nat := if c < M * E then c else if tow0 mode neg then M * E - 1 else M * E
theorem capC_mono (hf : Fm B P W M E H low) (mode : Int) (neg : Bool) {c c' : Nat} (h : c ≤ c') : capC M E mode neg c ≤ capC M E mode neg c' := by
  unfold capC
  by_cases h1 : c' < M * E
  · rw [if_pos h1, if_pos (by omega)]; exact h
  · rw [if_neg h1]
    by_cases h2 : c < M * E
    · rw [if_pos h2]; split <;> omega
    · rw [if_neg h2]; exact Nat.le_refl _
theorem capC_le (M E : Nat) (mode : Int) (neg : Bool) (c : Nat) : capC M E mode neg c ≤ M * E := by
  unfold capC; split
  · omega
  · split <;> omega
/-- the bits of a size, rounded. -/
def rndC (P M E : Nat) (low : Int) (mode : Int) (neg : Bool) (A : Nat) : Nat := capC M E mode neg (rC P M low mode neg A)
theorem rndC_mono (hf : Fm B P W M E H low) (mode : Int) (neg : Bool) {A A' : Nat} (h : A ≤ A') : rndC P M E low mode neg A ≤ rndC P M E low mode neg A' :=
  capC_mono hf mode neg (rC_mono hf mode neg h)
/-- WHAT IS A NUMBER OF THE FORMAT is rounded to itself. -/
theorem fl_val (hf : Fm B P W M E H low) (c : Nat) : flC P M low (valU M low c) = c :=
  flC_unique hf (Nat.le_refl _) (by rw [valU_step hf]; have := wid_pos M low c; omega)
theorem rC_val (hf : Fm B P W M E H low) (mode : Int) (neg : Bool) (c : Nat) : rC P M low mode neg (valU M low c) = c := by
  unfold rC
  rw [fl_val hf c, Nat.sub_self]
  unfold upB
  rw [if_pos rfl]
  rfl
theorem rndC_val (hf : Fm B P W M E H low) (mode : Int) (neg : Bool) (c : Nat) (hc : c < M * E) : rndC P M E low mode neg (valU M low c) = c := by
  unfold rndC capC
  rw [rC_val hf, if_pos hc]
/-- OF THE OTHER SIGN, Down and Up changing places. -/
def othM (mode : Int) : Int := if mode = 2 then 3 else if mode = 3 then 2 else mode
theorem upB_turn (mode : Int) (neg : Bool) (c r U : Nat) : upB (othM mode) (!neg) c r U = upB mode neg c r U := by
  unfold upB othM
  by_cases m2 : mode = 2
  · subst m2; simp
  · by_cases m3 : mode = 3
    · subst m3; simp
    · rw [if_neg m2, if_neg m3, if_neg m2, if_neg m3, if_neg m2, if_neg m3]
theorem tow0_turn (mode : Int) (neg : Bool) : tow0 (othM mode) (!neg) = tow0 mode neg := by
  unfold tow0 othM
  by_cases m2 : mode = 2
  · subst m2; cases neg <;> rfl
  · by_cases m3 : mode = 3
    · subst m3; cases neg <;> rfl
    · rw [if_neg m2, if_neg m3]
      have e2 : (mode == 2) = false := by simpa using m2
      have e3 : (mode == 3) = false := by simpa using m3
      rw [e2, e3]
      rfl
theorem rndC_turn (P M E : Nat) (low : Int) (mode : Int) (neg : Bool) (A : Nat) : rndC P M E low (othM mode) (!neg) A = rndC P M E low mode neg A ∧ rC P M low (othM mode) (!neg) A = rC P M low mode neg A := by
  unfold rndC rC capC
  simp only [upB_turn, tow0_turn]
  exact ⟨trivial, trivial⟩
/-- LESS THAN A PLACE AWAY, by Even and Away half a place at most. -/
theorem rC_half (hf : Fm B P W M E H low) (mode : Int) (neg : Bool) (A : Nat) :
    A < valU M low (rC P M low mode neg A) + wid M low (flC P M low A) ∧ valU M low (rC P M low mode neg A) < A + wid M low (flC P M low A) ∧
    (mode = 0 ∨ mode = 4 → 2 * A ≤ 2 * valU M low (rC P M low mode neg A) + wid M low (flC P M low A) ∧ 2 * valU M low (rC P M low mode neg A) ≤ 2 * A + wid M low (flC P M low A)) := by
  obtain ⟨g1, g2⟩ := flC_cell hf A
  have hs := valU_step hf (flC P M low A)
  have hw := wid_pos M low (flC P M low A)
  unfold rC
  split
  · rename_i hu
    rw [hs]
    rw [hs] at g2
    generalize valU M low (flC P M low A) = v at *
    generalize wid M low (flC P M low A) = U at *
    unfold upB at hu
    by_cases h0 : A - v = 0
    · rw [if_pos h0] at hu; cases hu
    · rw [if_neg h0] at hu
      refine ⟨by omega, by omega, fun hm => ?_⟩
      rcases hm with hm | hm
      · rw [if_pos hm, decide_eq_true_eq] at hu; omega
      · rw [if_neg (by omega), if_neg (by omega), if_neg (by omega), if_pos hm, decide_eq_true_eq] at hu; omega
  · rename_i hu
    rw [Nat.add_zero]
    rw [hs] at g2
    generalize valU M low (flC P M low A) = v at *
    generalize wid M low (flC P M low A) = U at *
    refine ⟨by omega, by omega, fun hm => ?_⟩
    unfold upB at hu
    by_cases h0 : A - v = 0
    · omega
    · rw [if_neg h0] at hu
      rcases hm with hm | hm
      · rw [if_pos hm, decide_eq_true_eq] at hu; omega
      · rw [if_neg (by omega), if_neg (by omega), if_neg (by omega), if_pos hm, decide_eq_true_eq] at hu; omega
/-- the directed modes: towards 0, and away from it. -/
theorem rC_down (hf : Fm B P W M E H low) {mode : Int} {neg : Bool} (h : mode = 1 ∨ (mode = 2 ∧ neg = false) ∨ (mode = 3 ∧ neg = true)) (A : Nat) : rC P M low mode neg A = flC P M low A := by
  have : upB mode neg (flC P M low A) (A - valU M low (flC P M low A)) (wid M low (flC P M low A)) = false := by
    unfold upB
    rcases h with rfl | ⟨rfl, rfl⟩ | ⟨rfl, rfl⟩ <;> simp
  unfold rC
  rw [this]
  rfl
theorem rC_up (hf : Fm B P W M E H low) {mode : Int} {neg : Bool} (h : (mode = 2 ∧ neg = true) ∨ (mode = 3 ∧ neg = false)) {A c : Nat} : rC P M low mode neg A ≤ c ↔ A ≤ valU M low c := by
  obtain ⟨g1, g2⟩ := flC_cell hf A
  have hu : upB mode neg (flC P M low A) (A - valU M low (flC P M low A)) (wid M low (flC P M low A)) = !decide (A - valU M low (flC P M low A) = 0) := by
    unfold upB
    by_cases h0 : A - valU M low (flC P M low A) = 0
    · rw [if_pos h0, decide_eq_true h0]; rfl
    · rw [if_neg h0, decide_eq_false h0]
      rcases h with ⟨rfl, rfl⟩ | ⟨rfl, rfl⟩ <;> simp
  unfold rC
  rw [hu]
  by_cases h0 : A - valU M low (flC P M low A) = 0
  · rw [decide_eq_true h0]
    show flC P M low A + 0 ≤ c ↔ _
    rw [Nat.add_zero, ← (valU_mono hf).2]
    omega
  · rw [decide_eq_false h0]
    show flC P M low A + 1 ≤ c ↔ _
    constructor
    · intro hc
      have := (valU_mono hf (a := flC P M low A + 1) (b := c)).2.2 hc
      omega
    · intro hc
      have := (valU_mono hf (a := flC P M low A) (b := c)).1.1 (by omega)
      omega
end
end Go.Proofs.YtpachoeignpcbaaGreatDoor

namespace Go.Proofs.YtpachoeignpcbaaGreatDoor
open Go.RowKit
set_option linter.unusedVariables false

section
variable {B P W M E H : Nat} {low : Int}
/-- the number of bits c of a sign, those that are infinite being BIG. -/
def szC (M E : Nat) (low : Int) (BIG : Nat) (c : Nat) : Nat := if c = M * E then BIG else valU M low c
def svl (M E : Nat) (low : Int) (BIG : Nat) (neg : Bool) (c : Nat) : Int := if neg then -(szC M E low BIG c : Int) else (szC M E low BIG c : Int)
/-- a number z, rounded. -/
def rndZ (P M E : Nat) (low : Int) (BIG : Nat) (mode : Int) (z : Int) : Int := svl M E low BIG (decide (z < 0)) (rndC P M E low mode (decide (z < 0)) z.natAbs)
theorem szC_mono (hf : Fm B P W M E H low) {BIG : Nat} (hB : valU M low (M * E) ≤ BIG) {c c' : Nat} (h : c ≤ c') (h' : c' ≤ M * E) : szC M E low BIG c ≤ szC M E low BIG c' := by
  unfold szC
  by_cases h1 : c' = M * E
  · rw [if_pos h1]
    split
    · exact Nat.le_refl _
    · exact Nat.le_trans ((valU_mono hf).2.2 (by omega)) hB
  · rw [if_neg h1, if_neg (by omega)]
    exact (valU_mono hf).2.2 h
theorem rndZ_neg (P M E : Nat) (low : Int) (BIG : Nat) (mode : Int) {z : Int} (h : z < 0) : rndZ P M E low BIG mode z = -(szC M E low BIG (rndC P M E low mode true z.natAbs) : Int) := by
  unfold rndZ svl
  rw [decide_eq_true h]
  rfl
theorem rndZ_pos (P M E : Nat) (low : Int) (BIG : Nat) (mode : Int) {z : Int} (h : ¬ z < 0) : rndZ P M E low BIG mode z = (szC M E low BIG (rndC P M E low mode false z.natAbs) : Int) := by
  unfold rndZ svl
  rw [decide_eq_false h]
  rfl
/-- A GREATER NUMBER IS NEVER ROUNDED TO A LESSER ONE. -/
theorem rndZ_mono (hf : Fm B P W M E H low) {BIG : Nat} (hB : valU M low (M * E) ≤ BIG) (mode : Int) {z z' : Int} (h : z ≤ z') : rndZ P M E low BIG mode z ≤ rndZ P M E low BIG mode z' := by
  by_cases h1 : z < 0
  · rw [rndZ_neg P M E low BIG mode h1]
    by_cases h2 : z' < 0
    · rw [rndZ_neg P M E low BIG mode h2]
      have := szC_mono hf hB (rndC_mono (E := E) hf mode true (show z'.natAbs ≤ z.natAbs by omega)) (capC_le M E mode true _)
      omega
    · rw [rndZ_pos P M E low BIG mode h2]
      omega
  · rw [rndZ_pos P M E low BIG mode h1, rndZ_pos P M E low BIG mode (show ¬ z' < 0 by omega)]
    have := szC_mono hf hB (rndC_mono (E := E) hf mode false (show z.natAbs ≤ z'.natAbs by omega)) (capC_le M E mode false _)
    omega
/-- towards 0: no greater in size. -/
theorem rnd_size_le (hf : Fm B P W M E H low) {BIG : Nat} {mode : Int} {neg : Bool} (h : mode = 1 ∨ (mode = 2 ∧ neg = false) ∨ (mode = 3 ∧ neg = true)) (A : Nat) : szC M E low BIG (rndC P M E low mode neg A) ≤ A := by
  have hb := hf.bd
  have ht : tow0 mode neg = true := by
    unfold tow0
    rcases h with rfl | ⟨rfl, rfl⟩ | ⟨rfl, rfl⟩ <;> rfl
  have hME : 0 < M * E := Nat.mul_pos (by omega) (by omega)
  unfold rndC capC
  rw [rC_down hf h, ht]
  have h1 := (flC_cell hf A).1
  by_cases h2 : flC P M low A < M * E
  · rw [if_pos h2]
    unfold szC
    rw [if_neg (by omega)]
    exact h1
  · rw [if_neg h2, if_pos rfl]
    unfold szC
    rw [if_neg (by omega)]
    exact Nat.le_trans ((valU_mono hf).2.2 (by omega)) h1
/-- away from 0: no less in size. -/
theorem rnd_size_ge (hf : Fm B P W M E H low) {BIG : Nat} {mode : Int} {neg : Bool} (h : (mode = 2 ∧ neg = true) ∨ (mode = 3 ∧ neg = false)) {A : Nat} (hA : A ≤ BIG) : A ≤ szC M E low BIG (rndC P M E low mode neg A) := by
  have hb := hf.bd
  have ht : tow0 mode neg = false := by
    unfold tow0
    rcases h with ⟨rfl, rfl⟩ | ⟨rfl, rfl⟩ <;> rfl
  unfold rndC capC
  rw [ht]
  by_cases h2 : rC P M low mode neg A < M * E
  · rw [if_pos h2]
    unfold szC
    rw [if_neg (by omega)]
    exact (rC_up hf h).1 (Nat.le_refl _)
  · rw [if_neg h2, if_neg (by decide)]
    unfold szC
    rw [if_pos rfl]
    exact hA
theorem rndZ_down (hf : Fm B P W M E H low) {BIG : Nat} {z : Int} (hz : z.natAbs ≤ BIG) : rndZ P M E low BIG 2 z ≤ z := by
  by_cases h : z < 0
  · rw [rndZ_neg P M E low BIG 2 h]
    have := rnd_size_ge (E := E) hf (mode := 2) (neg := true) (.inl ⟨rfl, rfl⟩) hz
    omega
  · rw [rndZ_pos P M E low BIG 2 h]
    have := rnd_size_le (E := E) hf (BIG := BIG) (mode := 2) (neg := false) (.inr (.inl ⟨rfl, rfl⟩)) z.natAbs
    omega
theorem rndZ_up (hf : Fm B P W M E H low) {BIG : Nat} {z : Int} (hz : z.natAbs ≤ BIG) : z ≤ rndZ P M E low BIG 3 z := by
  by_cases h : z < 0
  · rw [rndZ_neg P M E low BIG 3 h]
    have := rnd_size_le (E := E) hf (BIG := BIG) (mode := 3) (neg := true) (.inr (.inr ⟨rfl, rfl⟩)) z.natAbs
    omega
  · rw [rndZ_pos P M E low BIG 3 h]
    have := rnd_size_ge (E := E) hf (mode := 3) (neg := false) (.inr ⟨rfl, rfl⟩) hz
    omega
theorem rndZ_zero (hf : Fm B P W M E H low) {BIG : Nat} (z : Int) : (z < 0 → z ≤ rndZ P M E low BIG 1 z) ∧ (¬ z < 0 → rndZ P M E low BIG 1 z ≤ z) := by
  constructor
  · intro h
    rw [rndZ_neg P M E low BIG 1 h]
    have := rnd_size_le (E := E) hf (BIG := BIG) (mode := 1) (neg := true) (.inl rfl) z.natAbs
    omega
  · intro h
    rw [rndZ_pos P M E low BIG 1 h]
    have := rnd_size_le (E := E) hf (BIG := BIG) (mode := 1) (neg := false) (.inl rfl) z.natAbs
    omega

/-- what a narrower format has, a wider one has, too. -/
theorem repr {B' P' W' M' E' H' : Nat} {low' : Int} (hf : Fm B P W M E H low) (hg : Fm B' P' W' M' E' H' low') (hP : P ≤ P') (hl : low' ≤ low) (c : Nat) : valU M' low' (flC P' M' low' (valU M low c)) = valU M low c := by
  obtain ⟨b1, b2, b3, b4, b5, b6, b7, b8, b9, b10, b11, b12, b13, b14, b15⟩ := hf.bd
  obtain ⟨g1, g2, g3, g4, g5, g6, g7, g8, g9, g10, g11, g12, g13, g14, g15⟩ := hg.bd
  have hM : 0 < M := by omega
  rw [(flC_spec hg _).1]
  obtain ⟨n, s, hn, hs, hA⟩ : ∃ n s : Nat, n < 2 * M ∧ low + 40000 ≤ (s : Int) ∧ valU M low c = n * 2 ^ s := by
    unfold valU wid
    have h1 : c % M < M := Nat.mod_lt _ hM
    refine ⟨_, _, ?_, ?_, rfl⟩
    · split <;> omega
    · have : 1 ≤ max (c / M) 1 := Nat.le_max_right _ _
      omega
  have hbn : blen n ≤ P := (blen_le n P).2 (by
    have := hf.pP
    rw [show P = P - 1 + 1 by omega, Nat.pow_succ, this]; omega)
  obtain ⟨t, ht⟩ : ∃ t, (cellP P' low' (valU M low c) + 40000).toNat = t := ⟨_, rfl⟩
  rw [ht]
  have hts : t ≤ s ∨ n = 0 := by
    by_cases h0 : n = 0
    · exact .inr h0
    · left
      have h2 := blen_shift h0 s
      rw [← hA] at h2
      rw [← ht]
      unfold cellP
      omega
  rw [hA]
  rcases hts with hts | hts
  · rw [show s = (s - t) + t by omega, Nat.pow_add, ← Nat.mul_assoc, Nat.mul_div_cancel _ (Nat.two_pow_pos t)]
  · rw [hts, Nat.zero_mul, Nat.zero_div, Nat.zero_mul]
/-- TO A WIDER FORMAT FIRST, AND THEN TO THE NARROWER, towards 0. -/
theorem fl_nested {B' P' W' M' E' H' : Nat} {low' : Int} (hf : Fm B P W M E H low) (hg : Fm B' P' W' M' E' H' low') (hP : P ≤ P') (hl : low' ≤ low) (A : Nat) :
    flC P M low (valU M' low' (flC P' M' low' A)) = flC P M low A := by
  have key : ∀ c, c ≤ flC P M low (valU M' low' (flC P' M' low' A)) ↔ c ≤ flC P M low A := fun c => by
    rw [le_flC hf, le_flC hf, ← repr hf hg hP hl c, (valU_mono hg).2, le_flC hg]
  have h1 := (key _).1 (Nat.le_refl _)
  have h2 := (key _).2 (Nat.le_refl _)
  omega
/-- .. and away from it. -/
theorem up_nested {B' P' W' M' E' H' : Nat} {low' : Int} (hf : Fm B P W M E H low) (hg : Fm B' P' W' M' E' H' low') (hP : P ≤ P') (hl : low' ≤ low) {mode : Int} {neg : Bool} (h : (mode = 2 ∧ neg = true) ∨ (mode = 3 ∧ neg = false)) (A : Nat) :
    rC P M low mode neg (valU M' low' (rC P' M' low' mode neg A)) = rC P M low mode neg A := by
  have key : ∀ c, rC P M low mode neg (valU M' low' (rC P' M' low' mode neg A)) ≤ c ↔ rC P M low mode neg A ≤ c := fun c => by
    rw [rC_up hf h, rC_up hf h, ← repr hf hg hP hl c, (valU_mono hg).2, rC_up hg h]
  have h1 := (key _).1 (Nat.le_refl _)
  have h2 := (key _).2 (Nat.le_refl _)
  omega
theorem rndC_nested {B' P' W' M' E' H' : Nat} {low' : Int} (hf : Fm B P W M E H low) (hg : Fm B' P' W' M' E' H' low') (hP : P ≤ P') (hl : low' ≤ low) {mode : Int} (neg : Bool) (h : mode = 1 ∨ mode = 2 ∨ mode = 3) (A : Nat) :
    rndC P M E low mode neg (valU M' low' (rC P' M' low' mode neg A)) = rndC P M E low mode neg A := by
  unfold rndC
  congr 1
  by_cases h1 : mode = 1 ∨ (mode = 2 ∧ neg = false) ∨ (mode = 3 ∧ neg = true)
  · rw [rC_down hf h1, rC_down hf h1, rC_down hg h1]
    exact fl_nested hf hg hP hl A
  · exact up_nested hf hg hP hl (by
      cases neg <;> rcases h with rfl | rfl | rfl <;> simp_all) A
end
end Go.Proofs.YtpachoeignpcbaaGreatDoor

namespace Go.Proofs.YtpachoeignpcbaaGreatDoor
open Go.RowKit
set_option linter.unusedVariables false

section
variable {B P W M E H : Nat} {low : Int}
theorem vl_blen {a : D} (h0 : a.x ≠ 0) (he : -40000 ≤ a.e) : (blen a.vl.natAbs : Int) = (blen a.x : Int) + a.e + 40000 := by
  rw [D.vl_natAbs, blen_shift h0]
  omega
theorem plc_cell {a : D} (h0 : a.x ≠ 0) (he : -40000 ≤ a.e) (P : Nat) (low : Int) : plcS P low a = cellP P low a.vl.natAbs := by
  unfold plcS cellP
  rw [vl_blen h0 he]
  congr 1
  omega
theorem pl_vl_abs {a : D} (he : -40000 ≤ a.e) : a.pl.vl.natAbs = a.vl.natAbs := by rw [D.pl_vl he]
/-- a number of one sign and size. -/
theorem vl_of {a b : D} (hs : a.neg = b.neg) (h : a.vl.natAbs = b.vl.natAbs) : a.vl = b.vl := by
  have key : ∀ d : D, d.vl = if d.neg then -(d.vl.natAbs : Int) else (d.vl.natAbs : Int) := fun d => by
    rw [D.vl_natAbs]
    unfold D.vl D.sz
    cases d.neg
    · simp
    · simp [Int.neg_mul]
  rw [key a, key b, hs, h]
/-- towards 0 to a place, in units. -/
theorem floor_units {a : D} (hm : a.may = true) {p : Int} (hp : plB p = true) :
    floorS a p = (D.pl ⟨a.neg, a.vl.natAbs / 2 ^ (p + 40000).toNat, p⟩, decide (a.vl.natAbs % 2 ^ (p + 40000).toNat ≠ 0), 0) := by
  obtain ⟨m1, m2, m3⟩ := (D.may_iff a).1 hm
  have hpb := (plB_iff p).1 hp
  obtain ⟨an, ax, ae⟩ := a
  simp only at m1 m2 m3
  unfold floorS
  rw [hm, if_pos rfl, hp, if_pos rfl, D.vl_natAbs]
  simp only
  by_cases h : p ≤ ae
  · rw [if_pos h]
    obtain ⟨k, hk⟩ := Int.eq_ofNat_of_zero_le (show 0 ≤ ae - p by omega)
    have e1 : (ae + 40000).toNat = k + (p + 40000).toNat := by omega
    rw [e1, Nat.pow_add, ← Nat.mul_assoc, Nat.mul_div_cancel _ (Nat.two_pow_pos _), Nat.mul_mod_left]
    congr 1
    by_cases h0 : ax = 0
    · subst h0
      rw [Nat.zero_mul, D.pl_zero rfl, D.pl_zero rfl]
    · refine D.unique (D.pl_plain _) (D.pl_plain _) (D.pl_low (m := -40000) (by show -40000 ≤ ae; omega) (by omega)) (D.pl_low (m := -40000) (by show -40000 ≤ p; omega) (by omega)) ?_
      rw [D.pl_vl (by show -40000 ≤ ae; omega), D.pl_vl (by show -40000 ≤ p; omega)]
      refine vl_of rfl ?_
      rw [D.vl_natAbs, D.vl_natAbs]
      simp only
      rw [e1, Nat.pow_add, Nat.mul_assoc]
  · rw [if_neg h]
    obtain ⟨k, hk⟩ := Int.eq_ofNat_of_zero_le (show 0 ≤ p - ae by omega)
    have e1 : (p + 40000).toNat = k + (ae + 40000).toNat := by omega
    rw [hk, Int.toNat_natCast, e1, Nat.pow_add, Nat.mul_div_mul_right _ _ (Nat.two_pow_pos _), Nat.mul_mod_mul_right]
    congr 1
    congr 1
    refine decide_eq_decide.2 ?_
    have := Nat.two_pow_pos (ae + 40000).toNat
    constructor
    · intro h1 h2
      rcases Nat.mul_eq_zero.1 h2 with h3 | h3
      · exact h1 h3
      · omega
    · intro h1 h2
      rw [h2, Nat.zero_mul] at h1
      exact h1 rfl
/-- THE BITS of a number that has some. -/
theorem put_mul (hf : Fm B P W M E H low) {d : D} {c : Nat} (hd : d.plain) (he : -40000 ≤ d.e) (h0 : d.x ≠ 0) (hc : c < M * E) (hv : d.vl.natAbs = valU M low c) : putS P M E H low d = (sgn H d.neg c, 0) := by
  obtain ⟨b1, b2, b3, b4, b5, b6, b7, b8, b9, b10, b11, b12, b13, b14, b15⟩ := hf.bd
  obtain ⟨a1, a2⟩ := lt_finite hf c hc
  obtain ⟨f1, f2, f3, f4, f5⟩ := fields hf c a1
  obtain ⟨b, hb⟩ : ∃ b, sgn H d.neg c = b := ⟨_, rfl⟩
  obtain ⟨e1, e2⟩ := hf.hlf
  have hM : 0 < M := by omega
  have hbs : b % M = c % M ∧ b / M % (E + 1) = c / M % (E + 1) ∧ decide (b / H % 2 = 1) = d.neg ∧ b < 2 * H := by
    rw [← hb]
    unfold sgn
    cases d.neg
    · rw [if_neg (by decide)]
      exact ⟨rfl, rfl, by rw [f2]; rfl, by omega⟩
    · rw [if_pos rfl]
      have g : H + c = c + M * (E + 1) := by omega
      refine ⟨by rw [g, Nat.add_mul_mod_self_left], by rw [g, Nat.add_mul_div_left _ _ hM, Nat.add_mod_right], ?_, by omega⟩
      rw [show (H + c) / H = 1 by rw [Nat.add_comm, Nat.add_div_right _ (by omega), Nat.div_eq_of_lt a1]]
      rfl
  obtain ⟨k1, k2, k3, k4⟩ := hbs
  have hN : valN M E b = valN M E c := by unfold valN; rw [k1, k2]
  have hPp : valP M E low b = valP M E low c := by unfold valP; rw [k2]
  have hV := valU_valV hf c a1
  have hNz : valN M E b ≠ 0 := by
    intro h
    rw [hN] at h
    unfold valV at hV
    rw [h, Nat.zero_mul] at hV
    rw [← hV, D.vl_natAbs] at hv
    rcases Nat.mul_eq_zero.1 hv with h1 | h1
    · exact h0 h1
    · have := Nat.two_pow_pos (d.e + 40000).toNat; omega
  have hput := put_val hf b k4 (by rw [k2]; exact a2) hNz
  obtain ⟨p1, p2⟩ := valP_bd hf b
  have hdd : d = D.pl ⟨decide (b / H % 2 = 1), valN M E b, valP M E low b⟩ := by
    refine D.unique hd (D.pl_plain _) he (D.pl_low (m := -40000) (by show -40000 ≤ valP M E low b; omega) (by omega)) ?_
    rw [D.pl_vl (by show -40000 ≤ valP M E low b; omega)]
    refine vl_of k3.symm ?_
    rw [hv, ← hV, D.vl_natAbs]
    simp only
    unfold valV
    rw [hN, hPp]
  rw [← hdd] at hput
  rw [hput, hb]
/-- a number beyond has none. -/
theorem put_none (hf : Fm B P W M E H low) {d : D} {c : Nat} (hm : d.may = true) (h0 : d.x ≠ 0) (hc : M * E ≤ c) (hv : d.vl.natAbs = valU M low c) : putS P M E H low d = (0, 10) := by
  obtain ⟨b1, b2, b3, b4, b5, b6, b7, b8, b9, b10, b11, b12, b13, b14, b15⟩ := hf.bd
  have hM : 0 < M := by omega
  have he : -40000 ≤ d.e := by have := ((D.may_iff d).1 hm).2.1; omega
  have hplc := plc_cell (P := P) (low := low) h0 he
  have h1 : E ≤ c / M := by rw [Nat.le_div_iff_mul_le hM, Nat.mul_comm]; exact hc
  have hw := (flC_spec hf (valU M low c)).2
  rw [fl_val hf c] at hw
  unfold wid at hw
  have h2 : low + (max (c / M) 1 : Nat) - 1 = cellP P low (valU M low c) := by
    have h3 : low ≤ cellP P low (valU M low c) := by unfold cellP; omega
    have h4 := (Nat.pow_right_inj (a := 2) (by omega)).1 hw
    have h5 : (max (c / M) 1 : Nat) = c / M := Nat.max_eq_left (by omega)
    rw [h5] at h4 ⊢
    omega
  unfold putS
  rw [hm, if_pos rfl, if_neg h0, if_pos]
  right
  rw [hplc, hv, ← h2, show max (c / M) 1 = c / M from Nat.max_eq_left (by omega)]
  omega
end
end Go.Proofs.YtpachoeignpcbaaGreatDoor

namespace Go.Proofs.YtpachoeignpcbaaGreatDoor
open Go.RowKit
set_option linter.unusedVariables false

/-- may it be rounded? -/
def mayR (a : D) : Bool := a.may && (decide (a.x = 0) || (a.pl.may && decide ((blen a.x : Int) - 1 + a.e ≤ 8000)))
/-- what is told of a number beyond. -/
def begS (M E H : Nat) (mode : Int) (neg : Bool) : Nat := sgn H neg (if tow0 mode neg then M * E - 1 else M * E)
/-- is its size below the least normal one's? -/
def tinyS (M : Nat) (low : Int) (A : Nat) : Bool := decide (A < M * 2 ^ (low + 40000).toNat)
def flgS (P M : Nat) (low : Int) (A : Nat) : Int := if valU M low (flC P M low A) = A then 0 else if tinyS M low A then 3 else 1
def roundS (P M E H : Nat) (low : Int) (mode : Int) (a : D) (neg : Bool) : Nat × Int × Int :=
  if mode < 0 ∨ 4 < mode then (0, 0, 1) else if mayR a then
    (if a.x = 0 then (sgn H neg 0, 0, 0) else if rC P M low mode a.neg a.vl.natAbs < M * E then (sgn H a.neg (rC P M low mode a.neg a.vl.natAbs), flgS P M low a.vl.natAbs, 0) else (begS M E H mode a.neg, 5, 0))
  else (0, 0, 3)
section
variable {B P W M E H : Nat} {low : Int}
theorem roundS_zero {mode : Int} (hmode : 0 ≤ mode ∧ mode ≤ 4) {a : D} (hm : mayR a = true) (h0 : a.x = 0) (neg : Bool) : roundS P M E H low mode a neg = (sgn H neg 0, 0, 0) := by
  unfold roundS
  rw [if_neg (by omega), hm, if_pos rfl, if_pos h0]
/-- its bits, in one way. -/
theorem roundS_bits {mode : Int} (hmode : 0 ≤ mode ∧ mode ≤ 4) {a : D} (hm : mayR a = true) (h0 : a.x ≠ 0) (neg : Bool) :
    (roundS P M E H low mode a neg).1 = sgn H a.neg (rndC P M E low mode a.neg a.vl.natAbs) ∧ (roundS P M E H low mode a neg).2.2 = 0 ∧
    (roundS P M E H low mode a neg).2.1 = (if rC P M low mode a.neg a.vl.natAbs < M * E then flgS P M low a.vl.natAbs else 5) := by
  unfold roundS
  rw [if_neg (by omega), hm, if_pos rfl, if_neg h0]
  by_cases h : rC P M low mode a.neg a.vl.natAbs < M * E
  · rw [if_pos h, if_pos h]
    refine ⟨?_, rfl, rfl⟩
    unfold rndC capC
    rw [if_pos h]
  · rw [if_neg h, if_neg h]
    refine ⟨?_, rfl, rfl⟩
    unfold rndC capC begS
    rw [if_neg h]
/-- a plain number that may be, of no great top, may be rounded. -/
theorem mayR_of {a : D} (hm : a.may = true) (hp : a.pl.may = true) (ht : (blen a.x : Int) - 1 + a.e ≤ 8000) : mayR a = true := by
  unfold mayR
  rw [hm, hp, decide_eq_true ht]
  simp
theorem val_mayR (hf : Fm B P W M E H low) (b : Nat) (s : Bool) : mayR (D.pl ⟨s, valN M E b, valP M E low b⟩) = true := by
  obtain ⟨h1, h2⟩ := val_may hf b s
  obtain ⟨p1, p2⟩ := valP_bd hf b
  obtain ⟨b1, b2, b3, b4, b5, b6, b7, b8, b9, b10, b11, b12, b13, b14, b15⟩ := hf.bd
  have hn := valN_lt hf b
  by_cases h0 : valN M E b = 0
  · unfold mayR
    rw [h2, D.pl_zero (d := ⟨s, valN M E b, valP M E low b⟩) h0]
    rfl
  · have hpp : D.pl (D.pl ⟨s, valN M E b, valP M E low b⟩) = D.pl ⟨s, valN M E b, valP M E low b⟩ := by
      rw [D.pl_pos (d := ⟨s, valN M E b, valP M E low b⟩) h0]
      exact pl_eval s 0 _ (by simp) (tz_blen h0).2.2 (by simp)
    refine mayR_of h2 (by rw [hpp]; exact h2) ?_
    rw [D.pl_pos (d := ⟨s, valN M E b, valP M E low b⟩) h0]
    have h5 := blen_div_tz h0
    have h6 : blen (valN M E b) ≤ 64 := blen_lt_pow (by omega)
    show (blen (valN M E b / 2 ^ tz (valN M E b)) : Int) - 1 + (valP M E low b + (tz (valN M E b) : Int)) ≤ 8000
    omega
/-- bits by sign and size. -/
theorem bits_sgn (hf : Fm B P W M E H low) (b : Nat) (hb : b < 2 * H) : b = sgn H (decide (b / H % 2 = 1)) (b % H) ∧ b % H < H ∧ b % H / M % (E + 1) = b / M % (E + 1) ∧ b % H % M = b % M := by
  obtain ⟨b1, b2, b3, b4, b5, b6, b7, b8, b9, b10, b11, b12, b13, b14, b15⟩ := hf.bd
  obtain ⟨e1, e2⟩ := hf.hlf
  have hH : 0 < H := by omega
  have hM : 0 < M := by omega
  have h1 := Nat.div_add_mod b H
  have h2 : b / H < 2 := by rw [Nat.div_lt_iff_lt_mul hH]; exact hb
  have h3 : b % H < H := Nat.mod_lt _ hH
  refine ⟨?_, h3, ?_, ?_⟩
  · unfold sgn
    rcases Nat.lt_or_ge (b / H) 1 with h | h
    · have h4 : b / H = 0 := Nat.lt_one_iff.1 h
      rw [h4, Nat.mul_zero] at h1
      rw [h4, if_neg (by decide)]
      omega
    · have h4 : b / H = 1 := Nat.le_antisymm (Nat.le_of_lt_succ h2) h
      rw [h4, Nat.mul_one] at h1
      rw [h4, if_pos (by decide)]
      omega
  · rw [← e1, Nat.mod_mul_right_div_self, Nat.mod_mod]
  · rw [← e1, Nat.mod_mul_right_mod]
/-- bits of a sign and a size, taken apart. -/
theorem sgn_parts (hf : Fm B P W M E H low) (neg : Bool) (c : Nat) (hc : c < H) : sgn H neg c % M = c % M ∧ sgn H neg c / M % (E + 1) = c / M ∧ decide (sgn H neg c / H % 2 = 1) = neg ∧ sgn H neg c < 2 * H ∧
    valN M E (sgn H neg c) = valN M E c ∧ valP M E low (sgn H neg c) = valP M E low c := by
  obtain ⟨b1, b2, b3, b4, b5, b6, b7, b8, b9, b10, b11, b12, b13, b14, b15⟩ := hf.bd
  obtain ⟨f1, f2, f3, f4, f5⟩ := fields hf c hc
  obtain ⟨e1, e2⟩ := hf.hlf
  have hM : 0 < M := by omega
  have hb : sgn H neg c % M = c % M ∧ sgn H neg c / M % (E + 1) = c / M % (E + 1) ∧ decide (sgn H neg c / H % 2 = 1) = neg ∧ sgn H neg c < 2 * H := by
    unfold sgn
    cases neg
    · rw [if_neg (by decide)]
      exact ⟨rfl, rfl, by rw [f2]; rfl, by omega⟩
    · rw [if_pos rfl]
      have g : H + c = c + M * (E + 1) := by omega
      refine ⟨by rw [g, Nat.add_mul_mod_self_left], by rw [g, Nat.add_mul_div_left _ _ hM, Nat.add_mod_right], ?_, by omega⟩
      rw [show (H + c) / H = 1 by rw [Nat.add_comm, Nat.add_div_right _ (by omega), Nat.div_eq_of_lt hc]]
      rfl
  obtain ⟨k1, k2, k3, k4⟩ := hb
  refine ⟨k1, by rw [k2, f1], k3, k4, ?_, ?_⟩
  · unfold valN; rw [k1, k2]
  · unfold valP; rw [k2]
/-- the number of bits that have one, in units. -/
theorem val_abs (hf : Fm B P W M E H low) (neg : Bool) (c : Nat) (hc : c < M * E) :
    valS M E H low (sgn H neg c) = (D.pl ⟨neg, valN M E c, valP M E low c⟩, 0) ∧ (D.pl ⟨neg, valN M E c, valP M E low c⟩).vl = (if neg then -(valU M low c : Int) else (valU M low c : Int)) := by
  obtain ⟨a1, a2⟩ := lt_finite hf c hc
  obtain ⟨k1, k2, k3, k4, k5, k6⟩ := sgn_parts hf neg c a1
  obtain ⟨p1, p2⟩ := valP_bd hf c
  rw [(fields hf c a1).1] at a2
  constructor
  · unfold valS
    rw [if_pos k4, k2, if_neg a2, k3, k5, k6]
  · rw [D.pl_vl (by show -40000 ≤ valP M E low c; omega), ← valU_valV hf c a1]
    unfold D.vl D.sz valV
    cases neg
    · simp
    · simp [Int.neg_mul]
/-- WHAT IS A NUMBER OF THE FORMAT IS ROUNDED TO ITSELF. -/
theorem round_keeps (hf : Fm B P W M E H low) (b : Nat) (hb : b < 2 * H) (hx : b / M % (E + 1) ≠ E) {mode : Int} (hmode : 0 ≤ mode ∧ mode ≤ 4) :
    roundS P M E H low mode (D.pl ⟨decide (b / H % 2 = 1), valN M E b, valP M E low b⟩) (decide (b / H % 2 = 1)) = (b, 0, 0) := by
  obtain ⟨s1, s2, s3, s4⟩ := bits_sgn hf b hb
  have hm := val_mayR hf b (decide (b / H % 2 = 1))
  have hc : b % H < M * E := finite_lt hf _ s2 (by rw [s3]; exact hx)
  have hva := val_abs hf (decide (b / H % 2 = 1)) (b % H) hc
  obtain ⟨k1, k2, k3, k4, k5, k6⟩ := sgn_parts hf (decide (b / H % 2 = 1)) (b % H) s2
  rw [← s1] at k5 k6
  rw [← k5, ← k6] at hva
  obtain ⟨s, hs⟩ : ∃ s, decide (b / H % 2 = 1) = s := ⟨_, rfl⟩
  rw [hs] at hm hva s1 ⊢
  by_cases h0 : (D.pl ⟨s, valN M E b, valP M E low b⟩).x = 0
  · rw [roundS_zero hmode hm h0]
    have h1 : (D.pl ⟨s, valN M E b, valP M E low b⟩).vl.natAbs = 0 := by rw [D.vl_natAbs, h0, Nat.zero_mul]
    have h2 : valU M low (b % H) = 0 := by
      rw [hva.2] at h1
      cases s <;> simpa using h1
    have h3 : b % H = 0 := by
      have := (valU_mono hf (a := b % H) (b := 0)).2.1 (by rw [h2]; exact Nat.zero_le _)
      omega
    rw [h3] at s1
    rw [← s1]
  · have habs : (D.pl ⟨s, valN M E b, valP M E low b⟩).vl.natAbs = valU M low (b % H) := by
      rw [hva.2]
      cases s <;> simp
    have hneg : (D.pl ⟨s, valN M E b, valP M E low b⟩).neg = s := by
      have hn : valN M E b ≠ 0 := fun h => h0 (by rw [D.pl_zero (d := ⟨s, valN M E b, valP M E low b⟩) h])
      rw [D.pl_pos (d := ⟨s, valN M E b, valP M E low b⟩) hn]
    obtain ⟨r1, r2, r3⟩ := roundS_bits (P := P) (M := M) (E := E) (H := H) (low := low) hmode hm h0 s
    rw [habs, hneg] at r1 r3
    rw [rndC_val hf _ _ _ hc, ← s1] at r1
    rw [rC_val hf, if_pos hc] at r3
    unfold flgS at r3
    rw [fl_val hf, if_pos rfl] at r3
    exact Prod.ext r1 (Prod.ext r3 r2)
end
end Go.Proofs.YtpachoeignpcbaaGreatDoor

namespace Go.Proofs.YtpachoeignpcbaaGreatDoor
open Go.RowKit
set_option linter.unusedVariables false

/-- what stands for infinite, in units. -/
def kBIG : Nat := 45000
theorem kBIG_eq : kBIG = 45000 := rfl
def BIG : Nat := 2 ^ kBIG
section
variable {B P W M E H : Nat} {low : Int}
theorem ME_lt (hf : Fm B P W M E H low) : 0 < M * E ∧ M * E + M = H := by
  obtain ⟨e1, e2⟩ := hf.hlf
  have hb := hf.bd
  exact ⟨Nat.mul_pos (by omega) (by omega), by rw [← e1, Nat.mul_add, Nat.mul_one]⟩
theorem big_ok (hf : Fm B P W M E H low) : valU M low (M * E) ≤ BIG := by
  obtain ⟨b1, b2, b3, b4, b5, b6, b7, b8, b9, b10, b11, b12, b13, b14, b15⟩ := hf.bd
  have h := (valU_make hf (E - 1) M (by omega) (.inr (Nat.le_refl _))).1
  have e : (E - 1) * M + M = M * E := by rw [show M * E = (E - 1 + 1) * M by rw [Nat.mul_comm]; congr 1; omega, Nat.add_mul, Nat.one_mul]
  rw [e] at h
  have h2 : valU M low (M * E) = 2 ^ (P - 1 + (low + ((E - 1 : Nat) : Int) + 40000).toNat) := by rw [h, Nat.pow_add, hf.pP]
  rw [h2]
  unfold BIG
  exact Nat.pow_le_pow_right (by omega) (by rw [kBIG_eq]; omega)
theorem big_abs {a : D} (h : (blen a.x : Int) + a.e ≤ 5000) (he : -40000 ≤ a.e) : a.vl.natAbs ≤ BIG := by
  rw [D.vl_natAbs]
  have h1 := (blen_le a.x (blen a.x)).1 (Nat.le_refl _)
  have h2 : a.x * 2 ^ (a.e + 40000).toNat ≤ 2 ^ blen a.x * 2 ^ (a.e + 40000).toNat := Nat.mul_le_mul_right _ (Nat.le_of_lt h1)
  rw [← Nat.pow_add] at h2
  refine Nat.le_trans h2 ?_
  unfold BIG
  exact Nat.pow_le_pow_right (by omega) (by rw [kBIG_eq]; omega)
theorem inf_vl (neg : Bool) : (⟨neg, 1, 5000⟩ : D).vl = if neg then -(BIG : Int) else (BIG : Int) := by
  have e : ((5000 : Int) + 40000).toNat = kBIG := rfl
  have h : (⟨neg, 1, 5000⟩ : D).vl = (if neg then -((1 : Nat) : Int) else ((1 : Nat) : Int)) * 2 ^ kBIG := by rw [← e]; rfl
  rw [h]
  unfold BIG
  rw [two_cast]
  generalize (2 : Int) ^ kBIG = T
  cases neg
  · rw [if_neg (by decide), if_neg (by decide)]
    exact Int.one_mul _
  · rw [if_pos rfl, if_pos rfl, Int.neg_mul]
    exact congrArg _ (Int.one_mul _)
theorem vl_sign {a : D} (h0 : a.x ≠ 0) : decide (a.vl < 0) = a.neg := by
  have := D.vl_neg (d := a)
  cases h : a.neg
  · exact decide_eq_false (fun h1 => by have := (this.1 h1).1; rw [h] at this; cases this)
  · exact decide_eq_true (this.2 ⟨h, h0⟩)
theorem rndC_zero (hf : Fm B P W M E H low) (mode : Int) (neg : Bool) : rndC P M E low mode neg 0 = 0 := by
  have h := rndC_val hf mode neg 0 (ME_lt hf).1
  rw [valU_zero hf] at h
  exact h
/-- what is told, as a number. -/
theorem round_vl (hf : Fm B P W M E H low) {mode : Int} (hmode : 0 ≤ mode ∧ mode ≤ 4) {a : D} (hm : mayR a = true) : ∃ (s : Bool) (k : Nat), k ≤ M * E ∧ (roundS P M E H low mode a false).1 = sgn H s k ∧ (roundS P M E H low mode a false).2.2 = 0 ∧
    svl M E low BIG s k = rndZ P M E low BIG mode a.vl := by
  by_cases h0 : a.x = 0
  · refine ⟨false, 0, Nat.zero_le _, by rw [roundS_zero hmode hm h0], by rw [roundS_zero hmode hm h0], ?_⟩
    rw [D.vl_zero.2 h0]
    unfold rndZ
    show _ = svl M E low BIG (decide ((0 : Int) < 0)) (rndC P M E low mode (decide ((0 : Int) < 0)) 0)
    rw [rndC_zero hf]
    rfl
  · obtain ⟨r1, r2, r3⟩ := roundS_bits (P := P) (M := M) (E := E) (H := H) (low := low) hmode hm h0 false
    refine ⟨a.neg, _, capC_le M E mode a.neg _, r1, r2, ?_⟩
    unfold rndZ
    rw [vl_sign h0]
    rfl
/-- A GREATER NUMBER IS NEVER ROUNDED TO A LESSER ONE. -/
theorem cmp_rises (hf : Fm B P W M E H low) (mode : Int) (z z' : Int) : (cmpI z z' < 0 → ¬ 0 < cmpI (rndZ P M E low BIG mode z) (rndZ P M E low BIG mode z')) ∧
    (0 < cmpI z z' → ¬ cmpI (rndZ P M E low BIG mode z) (rndZ P M E low BIG mode z') < 0) ∧ (cmpI z z' = 0 → cmpI (rndZ P M E low BIG mode z) (rndZ P M E low BIG mode z') = 0) := by
  have hB := big_ok hf
  have k1 := cmpI_cases z z'
  have k2 := cmpI_cases (rndZ P M E low BIG mode z) (rndZ P M E low BIG mode z')
  refine ⟨fun h => ?_, fun h => ?_, fun h => ?_⟩
  · have := rndZ_mono hf hB mode (show z ≤ z' by omega)
    omega
  · have := rndZ_mono hf hB mode (show z' ≤ z by omega)
    omega
  · have e : z = z' := by omega
    rw [e]
    have := cmpI_cases (rndZ P M E low BIG mode z') (rndZ P M E low BIG mode z')
    omega
theorem cmp_down (hf : Fm B P W M E H low) {z : Int} (hz : z.natAbs ≤ BIG) : cmpI (rndZ P M E low BIG 2 z) z ≤ 0 := by
  have := rndZ_down (E := E) hf hz
  have := cmpI_cases (rndZ P M E low BIG 2 z) z
  omega
theorem cmp_up (hf : Fm B P W M E H low) {z : Int} (hz : z.natAbs ≤ BIG) : 0 ≤ cmpI (rndZ P M E low BIG 3 z) z := by
  have := rndZ_up (E := E) hf hz
  have := cmpI_cases (rndZ P M E low BIG 3 z) z
  omega
theorem cmp_zero (hf : Fm B P W M E H low) (z : Int) : (z < 0 → 0 ≤ cmpI (rndZ P M E low BIG 1 z) z) ∧ (¬ z < 0 → cmpI (rndZ P M E low BIG 1 z) z ≤ 0) := by
  have h := rndZ_zero (E := E) hf (BIG := BIG) z
  have := cmpI_cases (rndZ P M E low BIG 1 z) z
  exact ⟨fun h1 => by have := h.1 h1; omega, fun h1 => by have := h.2 h1; omega⟩
/-- bits of both signs. -/
theorem sgn_xor (hf : Fm B P W M E H low) (neg : Bool) (k : Nat) (hk : k < H) : sgn H neg k ^^^ sgn H (!neg) k = H := by
  have key : (H + k) ^^^ k = H := by
    rw [← hf.pB] at hk ⊢
    rw [← or_above' (B - 1) k hk]
    apply Nat.eq_of_testBit_eq
    intro i
    rw [Nat.testBit_xor, Nat.testBit_or, Nat.testBit_two_pow]
    by_cases e : B - 1 = i
    · subst e
      rw [Nat.testBit_lt_two_pow hk]
      simp
    · simp [e]
  unfold sgn
  cases neg
  · simp only [Bool.false_eq_true, if_false, Bool.not_false, if_true]
    rw [Nat.xor_comm]
    exact key
  · simp only [if_true, Bool.not_true, Bool.false_eq_true, if_false]
    exact key
/-- A NUMBER OF THE OTHER SIGN. -/
theorem round_turns (hf : Fm B P W M E H low) {mode : Int} (hmode : 0 ≤ mode ∧ mode ≤ 4) {a : D} (hm : mayR a = true) (hm' : mayR a.turn = true) (h0 : a.x ≠ 0) :
    (roundS P M E H low mode a false).1 ^^^ (roundS P M E H low (othM mode) a.turn false).1 = H ∧ (roundS P M E H low mode a false).2.1 = (roundS P M E H low (othM mode) a.turn false).2.1 ∧
    (roundS P M E H low mode a false).2.2 = 0 ∧ (roundS P M E H low (othM mode) a.turn false).2.2 = 0 ∧
    ((roundS P M E H low mode a false).2.1 = 0 ∨ (roundS P M E H low mode a false).2.1 = 1 ∨ (roundS P M E H low mode a false).2.1 = 3 ∨ (roundS P M E H low mode a false).2.1 = 5) := by
  have hmode' : 0 ≤ othM mode ∧ othM mode ≤ 4 := by unfold othM; split <;> (try split) <;> omega
  obtain ⟨r1, r2, r3⟩ := roundS_bits (P := P) (M := M) (E := E) (H := H) (low := low) hmode hm h0 false
  obtain ⟨s1, s2, s3⟩ := roundS_bits (P := P) (M := M) (E := E) (H := H) (low := low) hmode' hm' (a := a.turn) h0 false
  have hv : a.turn.vl.natAbs = a.vl.natAbs := by rw [D.turn_vl, Int.natAbs_neg]
  obtain ⟨t1, t2⟩ := rndC_turn P M E low mode a.neg a.vl.natAbs
  rw [hv] at s1 s3
  rw [show a.turn.neg = !a.neg from rfl] at s1 s3
  rw [t1] at s1
  rw [t2] at s3
  have hk := capC_le M E mode a.neg (rC P M low mode a.neg a.vl.natAbs)
  have hME := ME_lt hf
  have hM := hf.bd
  refine ⟨?_, by rw [r3, s3], r2, s2, ?_⟩
  · rw [r1, s1]
    exact sgn_xor hf a.neg _ (by unfold rndC; omega)
  · rw [r3]
    unfold flgS
    split
    · split
      · exact .inl rfl
      · split
        · exact .inr (.inr (.inl rfl))
        · exact .inr (.inl rfl)
    · exact .inr (.inr (.inr rfl))
end
end Go.Proofs.YtpachoeignpcbaaGreatDoor

namespace Go.Proofs.YtpachoeignpcbaaGreatDoor
open Go.RowKit
set_option linter.unusedVariables false

section
variable {B P W M E H : Nat} {low : Int}
/-- a number as the laws take it may be rounded. -/
theorem law_may {a : D} (hx : blen a.x ≤ 1280) (h1 : -1200 ≤ a.e) (h2 : a.e ≤ 1100) : a.may = true ∧ mayR a = true ∧ a.inn (-1200) 2380 1280 ∧ a.vl.natAbs ≤ BIG := by
  have hm : a.may = true := (D.may_iff a).2 ⟨by omega, by omega, by omega⟩
  refine ⟨hm, ?_, fun _ => ⟨h1, by omega, hx⟩, big_abs (by omega) (by omega)⟩
  by_cases h0 : a.x = 0
  · unfold mayR
    rw [hm, decide_eq_true h0]
    rfl
  · refine mayR_of hm ?_ (by omega)
    have h5 := blen_div_tz h0
    rw [D.pl_pos h0, D.may_iff]
    show blen (a.x / 2 ^ tz a.x) ≤ 4096 ∧ -8192 ≤ a.e + (tz a.x : Int) ∧ a.e + (tz a.x : Int) ≤ 8192
    omega
/-- the number of bits k and a sign: it may be taken, and where its bits lie. -/
theorem val_inn (hf : Fm B P W M E H low) (s : Bool) (k : Nat) : (D.pl ⟨s, valN M E k, valP M E low k⟩).may = true ∧ (D.pl ⟨s, valN M E k, valP M E low k⟩).inn (-1200) 2380 64 ∧ -1200 ≤ (D.pl ⟨s, valN M E k, valP M E low k⟩).e := by
  obtain ⟨b1, b2, b3, b4, b5, b6, b7, b8, b9, b10, b11, b12, b13, b14, b15⟩ := hf.bd
  obtain ⟨p1, p2⟩ := valP_bd hf k
  have hn := valN_lt hf k
  have hb : blen (valN M E k) ≤ 64 := blen_lt_pow (by omega)
  refine ⟨(val_may hf k s).2, inn_pl (fun _ => ⟨by show -1200 ≤ valP M E low k; omega, by show (blen (valN M E k) : Int) + valP M E low k ≤ 2380; omega, hb⟩), ?_⟩
  exact D.pl_low (m := -1200) (by show -1200 ≤ valP M E low k; omega) (by omega)
/-- how far what is told is from the number. -/
theorem half_sub (hf : Fm B P W M E H low) {a : D} (hx : blen a.x ≤ 1280) (h1 : -1200 ≤ a.e) (h2 : a.e ≤ 1100) (k : Nat) (hk : k < M * E) :
    ∃ d : D, addS a (D.turn (D.pl ⟨a.neg, valN M E k, valP M E low k⟩)) = (d, 0) ∧ blen d.x ≤ 4096 ∧ (⟨false, d.x, d.e⟩ : D).may = true ∧ (⟨false, d.x, d.e⟩ : D).vl = (((a.vl.natAbs : Int) - (valU M low k : Int)).natAbs : Int) := by
  obtain ⟨m1, m2, m3, m4⟩ := law_may hx h1 h2
  obtain ⟨n1, n2, n3⟩ := val_inn hf a.neg k
  have hv := (val_abs hf a.neg k hk).2
  obtain ⟨g1, g2, g3⟩ := addS_to (hi' := 2381) 3581 m1 (show (D.turn (D.pl ⟨a.neg, valN M E k, valP M E low k⟩)).may = true by rw [D.turn_may]; exact n1) m3 (inn_turn n2) (by omega) (by omega) (by omega) (by omega) (by omega) (by omega)
  refine ⟨_, g1, ((D.may_iff _).1 g2).1, ?_, ?_⟩
  · rw [D.may_iff] at g2 ⊢
    exact g2
  · have h3 : (⟨false, (a.add (D.turn (D.pl ⟨a.neg, valN M E k, valP M E low k⟩))).x, (a.add (D.turn (D.pl ⟨a.neg, valN M E k, valP M E low k⟩))).e⟩ : D).vl = ((a.add (D.turn (D.pl ⟨a.neg, valN M E k, valP M E low k⟩))).vl.natAbs : Int) := by
      rw [D.vl_natAbs]
      unfold D.vl D.sz
      simp
    rw [h3, D.add_vl (by omega) (by show -40000 ≤ (D.pl ⟨a.neg, valN M E k, valP M E low k⟩).e; omega), D.turn_vl, hv]
    have h4 : a.vl = if a.neg then -(a.vl.natAbs : Int) else (a.vl.natAbs : Int) := by
      rw [D.vl_natAbs]
      unfold D.vl D.sz
      cases a.neg
      · simp
      · simp [Int.neg_mul]
    generalize a.vl = z at *
    generalize (valU M low k : Int) = v at *
    cases h : a.neg <;> rw [h] at h4 <;> simp at h4 ⊢ <;> omega
/-- LESS THAN A PLACE AWAY, by Even and Away half a place at most. -/
theorem round_half (hf : Fm B P W M E H low) {mode : Int} (hmode : 0 ≤ mode ∧ mode ≤ 4) {a : D} (hx : blen a.x ≤ 1280) (h1 : -1200 ≤ a.e) (h2 : a.e ≤ 1100) (h0 : a.x ≠ 0)
    (hfl : (roundS P M E H low mode a false).2.1 ≠ 5) {p : Int} (hp : plcS P low a = p) :
    ∃ k, k < M * E ∧ (roundS P M E H low mode a false).1 = sgn H a.neg k ∧ (roundS P M E H low mode a false).2.2 = 0 ∧
      cmpI (((a.vl.natAbs : Int) - (valU M low k : Int)).natAbs : Int) (⟨false, 1, p⟩ : D).vl < 0 ∧ (cmpI (((a.vl.natAbs : Int) - (valU M low k : Int)).natAbs : Int) (⟨false, 1, p - 1⟩ : D).vl ≤ 0 ∨ (mode ≠ 0 ∧ mode ≠ 4)) := by
  obtain ⟨b1, b2, b3, b4, b5, b6, b7, b8, b9, b10, b11, b12, b13, b14, b15⟩ := hf.bd
  obtain ⟨m1, m2, m3, m4⟩ := law_may hx h1 h2
  obtain ⟨r1, r2, r3⟩ := roundS_bits (P := P) (M := M) (E := E) (H := H) (low := low) hmode m2 h0 false
  have hk : rC P M low mode a.neg a.vl.natAbs < M * E := by
    refine Classical.byContradiction fun h => ?_
    rw [if_neg h] at r3
    exact hfl r3
  have hrc : rndC P M E low mode a.neg a.vl.natAbs = rC P M low mode a.neg a.vl.natAbs := by unfold rndC capC; rw [if_pos hk]
  rw [hrc] at r1
  have hplc := plc_cell (P := P) (low := low) h0 (show -40000 ≤ a.e by omega)
  have hw := (flC_spec hf a.vl.natAbs).2
  rw [← hplc, hp] at hw
  have hpl : low ≤ p := by rw [← hp]; unfold plcS; omega
  have u1 : (⟨false, 1, p⟩ : D).vl = ((2 ^ (p + 40000).toNat : Nat) : Int) := by
    rw [two_cast]
    unfold D.vl D.sz
    simp
  have u2 : 2 * (⟨false, 1, p - 1⟩ : D).vl = ((2 ^ (p + 40000).toNat : Nat) : Int) := by
    rw [two_cast, show (p + 40000).toNat = (p - 1 + 40000).toNat + 1 by omega, Int.pow_succ]
    unfold D.vl D.sz
    simp [Int.mul_comm]
  obtain ⟨h3, h4, h5⟩ := rC_half hf mode a.neg a.vl.natAbs
  rw [hw] at h3 h4 h5
  refine ⟨_, hk, r1, r2, ?_, ?_⟩
  · rw [u1]
    generalize (2 ^ (p + 40000).toNat : Nat) = U at *
    have := cmpI_cases (((a.vl.natAbs : Int) - (valU M low (rC P M low mode a.neg a.vl.natAbs) : Int)).natAbs : Int) (U : Int)
    omega
  · by_cases hm : mode = 0 ∨ mode = 4
    · left
      have h6 := h5 hm
      generalize (2 ^ (p + 40000).toNat : Nat) = U at *
      generalize (⟨false, 1, p - 1⟩ : D).vl = V at *
      have := cmpI_cases (((a.vl.natAbs : Int) - (valU M low (rC P M low mode a.neg a.vl.natAbs) : Int)).natAbs : Int) V
      omega
    · right
      exact ⟨fun h => hm (.inl h), fun h => hm (.inr h)⟩
/-- TO A WIDER FORMAT FIRST, AND THEN TO THE NARROWER. -/
theorem round_nested {B' P' W' M' E' H' : Nat} {low' : Int} (hf : Fm B P W M E H low) (hg : Fm B' P' W' M' E' H' low') (hP : P ≤ P') (hl : low' ≤ low) {mode : Int} (hmode : mode = 1 ∨ mode = 2 ∨ mode = 3) {a : D} (hm : mayR a = true) (he : -40000 ≤ a.e)
    (hfl : (roundS P' M' E' H' low' mode a false).2.1 ≠ 5) :
    ∃ (s : Bool) (k : Nat), k < M' * E' ∧ (roundS P' M' E' H' low' mode a false).1 = sgn H' s k ∧ (roundS P' M' E' H' low' mode a false).2.2 = 0 ∧
      (roundS P M E H low mode a false).2.2 = 0 ∧ (roundS P M E H low mode (D.pl ⟨s, valN M' E' k, valP M' E' low' k⟩) s).2.2 = 0 ∧
      (roundS P M E H low mode a false).1 = (roundS P M E H low mode (D.pl ⟨s, valN M' E' k, valP M' E' low' k⟩) s).1 := by
  have hmo : 0 ≤ mode ∧ mode ≤ 4 := by omega
  have hME := ME_lt hg
  by_cases h0 : a.x = 0
  · have e := roundS_zero (P := P') (M := M') (E := E') (H := H') (low := low') hmo hm h0 false
    have e2 := roundS_zero (P := P) (M := M) (E := E) (H := H) (low := low) hmo hm h0 false
    have hz : (D.pl ⟨false, valN M' E' 0, valP M' E' low' 0⟩).x = 0 := by
      have : valN M' E' 0 = 0 := by unfold valN; simp
      rw [D.pl_zero (d := ⟨false, valN M' E' 0, valP M' E' low' 0⟩) this]
    have e3 := roundS_zero (P := P) (M := M) (E := E) (H := H) (low := low) hmo (val_mayR hg 0 false) hz false
    exact ⟨false, 0, hME.1, by rw [e], by rw [e], by rw [e2], by rw [e3], by rw [e2, e3]⟩
  · obtain ⟨r1, r2, r3⟩ := roundS_bits (P := P') (M := M') (E := E') (H := H') (low := low') hmo hm h0 false
    obtain ⟨s1, s2, s3⟩ := roundS_bits (P := P) (M := M) (E := E) (H := H) (low := low) hmo hm h0 false
    have hk : rC P' M' low' mode a.neg a.vl.natAbs < M' * E' := by
      refine Classical.byContradiction fun h => ?_
      rw [if_neg h] at r3
      exact hfl r3
    have hrc : rndC P' M' E' low' mode a.neg a.vl.natAbs = rC P' M' low' mode a.neg a.vl.natAbs := by unfold rndC capC; rw [if_pos hk]
    rw [hrc] at r1
    obtain ⟨k, hkk⟩ : ∃ k, rC P' M' low' mode a.neg a.vl.natAbs = k := ⟨_, rfl⟩
    have hn := rndC_nested (E := E) hf hg hP hl a.neg hmode a.vl.natAbs
    rw [hkk] at r1 hk hn
    have hva := (val_abs hg a.neg k hk).2
    have habs : (D.pl ⟨a.neg, valN M' E' k, valP M' E' low' k⟩).vl.natAbs = valU M' low' k := by
      rw [hva]
      cases a.neg <;> simp
    have hvm := val_mayR hg k a.neg
    refine ⟨a.neg, k, hk, r1, r2, s2, ?_, ?_⟩
    · by_cases hz : (D.pl ⟨a.neg, valN M' E' k, valP M' E' low' k⟩).x = 0
      · rw [roundS_zero hmo hvm hz]
      · exact (roundS_bits (P := P) (M := M) (E := E) (H := H) (low := low) hmo hvm hz a.neg).2.1
    · rw [s1, ← hn]
      by_cases hz : (D.pl ⟨a.neg, valN M' E' k, valP M' E' low' k⟩).x = 0
      · rw [roundS_zero hmo hvm hz]
        have h1 : valU M' low' k = 0 := by rw [← habs, D.vl_natAbs, hz, Nat.zero_mul]
        rw [h1, rndC_zero hf]
      · have hneg : (D.pl ⟨a.neg, valN M' E' k, valP M' E' low' k⟩).neg = a.neg := by
          have hn0 : valN M' E' k ≠ 0 := fun h => hz (by rw [D.pl_zero (d := ⟨a.neg, valN M' E' k, valP M' E' low' k⟩) h])
          rw [D.pl_pos (d := ⟨a.neg, valN M' E' k, valP M' E' low' k⟩) hn0]
        have t1 := (roundS_bits (P := P) (M := M) (E := E) (H := H) (low := low) hmo hvm hz a.neg).1
        rw [habs, hneg] at t1
        rw [t1]
end
end Go.Proofs.YtpachoeignpcbaaGreatDoor

namespace Go.Proofs.YtpachoeignpcbaaGreatDoor
open Go.RowKit
set_option linter.unusedVariables false

section
variable {B P W M E H : Nat} {low : Int}
/-- what a number that may be rounded, and isn't 0, is like. -/
theorem mayR_bd {a : D} (hm : mayR a = true) (h0 : a.x ≠ 0) : a.may = true ∧ a.pl.may = true ∧ (blen a.x : Int) - 1 + a.e ≤ 8000 ∧ -8192 ≤ a.e := by
  unfold mayR at hm
  rw [decide_eq_false h0] at hm
  simp only [Bool.false_or, Bool.and_eq_true, decide_eq_true_eq] at hm
  obtain ⟨h1, h2, h3⟩ := hm
  exact ⟨h1, h2, h3, ((D.may_iff a).1 h1).2.1⟩
theorem plc_bd (hf : Fm B P W M E H low) {a : D} (hm : mayR a = true) (h0 : a.x ≠ 0) : low ≤ plcS P low a ∧ plcS P low a ≤ 8000 := by
  obtain ⟨b1, b2, b3, b4, b5, b6, b7, b8, b9, b10, b11, b12, b13, b14, b15⟩ := hf.bd
  obtain ⟨h1, h2, h3, h4⟩ := mayR_bd hm h0
  unfold plcS
  omega
/-- the multiple of its place below a size, as bits have it. -/
theorem flq (hf : Fm B P W M E H low) (A : Nat) : A / 2 ^ (cellP P low A + 40000).toNat < 2 * M ∧ A / 2 ^ (cellP P low A + 40000).toNat % 2 = flC P M low A % 2 := by
  obtain ⟨b1, b2, b3, b4, b5, b6, b7, b8, b9, b10, b11, b12, b13, b14, b15⟩ := hf.bd
  constructor
  · obtain ⟨p, hp⟩ : ∃ p, cellP P low A = p := ⟨_, rfl⟩
    have hp1 : low ≤ p := by rw [← hp]; unfold cellP; omega
    have hp2 : (blen A : Int) - 40000 - (P : Int) ≤ p := by rw [← hp]; unfold cellP; omega
    obtain ⟨s, hs⟩ : ∃ s, (p + 40000).toNat = s := ⟨_, rfl⟩
    rw [hp, hs, Nat.div_lt_iff_lt_mul (Nat.two_pow_pos _), ← hf.pP, show 2 * 2 ^ (P - 1) = 2 ^ P by rw [Nat.mul_comm, ← Nat.pow_succ]; congr 1; omega, ← Nat.pow_add]
    exact (blen_le A (P + s)).1 (by omega)
  · unfold flC
    have h : M = 2 * (M / 2) := hf.hlf.2
    rw [h, Nat.mul_left_comm]
    omega
theorem nb_may {n : Nat} {p : Int} (hn : n ≤ 18446744073709551615) (h1 : -2000 ≤ p) (h2 : p ≤ 8000) : (D.pl ⟨false, n, p⟩).may = true ∧ (D.pl ⟨false, n, p⟩).plain ∧ -2000 ≤ (D.pl ⟨false, n, p⟩).e ∧ (D.pl ⟨false, n, p⟩).vl = (n * 2 ^ (p + 40000).toNat : Nat) ∧ blen (D.pl ⟨false, n, p⟩).x ≤ 64 ∧ (D.pl ⟨false, n, p⟩).neg = false ∧ (D.pl ⟨false, n, p⟩).e ≤ 8064 := by
  have hb : blen n ≤ 64 := blen_lt_pow (by omega)
  have hv : (D.pl ⟨false, n, p⟩).vl = (n * 2 ^ (p + 40000).toNat : Nat) := by
    rw [D.pl_vl (by show -40000 ≤ p; omega)]
    unfold D.vl D.sz
    simp
  have hl := D.pl_low (d := ⟨false, n, p⟩) (m := -2000) (by show -2000 ≤ p; omega) (by omega)
  by_cases h0 : n = 0
  · subst h0
    rw [D.pl_zero (d := ⟨false, 0, p⟩) rfl] at hv hl ⊢
    exact ⟨may_small (by show 0 < 18446744073709551616; omega) (by show (-8192 : Int) ≤ 0; omega) (by show (0 : Int) ≤ 8192; omega), D.plain_zero, hl, hv, by show blen 0 ≤ 64; rw [blen_zero]; omega, rfl, by show (0 : Int) ≤ 8064; omega⟩
  · have h5 := blen_div_tz h0
    have hp := D.pl_plain ⟨false, n, p⟩
    rw [D.pl_pos (d := ⟨false, n, p⟩) h0] at hv hl hp ⊢
    refine ⟨(D.may_iff _).2 ⟨?_, ?_, ?_⟩, hp, hl, hv, ?_, rfl, ?_⟩
    · show blen (n / 2 ^ tz n) ≤ 4096; omega
    · show -8192 ≤ p + (tz n : Int); omega
    · show p + (tz n : Int) ≤ 8192; omega
    · show blen (n / 2 ^ tz n) ≤ 64; omega
    · show p + (tz n : Int) ≤ 8064; omega
/-- the size of the plain form. -/
theorem size_vl {a : D} (he : -40000 ≤ a.e) : (⟨false, a.pl.x, a.pl.e⟩ : D).vl = (a.vl.natAbs : Int) := by
  rw [← pl_vl_abs he, D.vl_natAbs]
  unfold D.vl D.sz
  simp
theorem size_floor {a : D} (hm : a.pl.may = true) (he : -40000 ≤ a.e) {p : Int} (hp : plB p = true) :
    floorS ⟨false, a.pl.x, a.pl.e⟩ p = (D.pl ⟨false, a.vl.natAbs / 2 ^ (p + 40000).toNat, p⟩, decide (a.vl.natAbs % 2 ^ (p + 40000).toNat ≠ 0), 0) := by
  have h := floor_units (a := ⟨false, a.pl.x, a.pl.e⟩) (by rw [D.may_iff] at hm ⊢; exact hm) hp
  rw [size_vl he, Int.natAbs_natCast] at h
  exact h
/-- the neighbour above. -/
theorem nb_next {n : Nat} {p : Int} (hn : n < 18446744073709551615) (h1 : -2000 ≤ p) (h2 : p ≤ 8000) : addS (D.pl ⟨false, n, p⟩) ⟨false, 1, p⟩ = (D.pl ⟨false, n + 1, p⟩, 0) := by
  obtain ⟨m1, m2, m3, m4, m5, m6, m7⟩ := nb_may (n := n) (by omega) h1 h2
  obtain ⟨k1, k2, k3, k4, k5, k6, k7⟩ := nb_may (n := n + 1) (by omega) h1 h2
  have mo : (⟨false, 1, p⟩ : D).may = true := may_small (by show 1 < 18446744073709551616; omega) (by show -8192 ≤ p; omega) (by show p ≤ 8192; omega)
  rw [addS_ok m1 mo]
  have h := D.add_of (a := D.pl ⟨false, n, p⟩) (b := ⟨false, 1, p⟩) (c := D.pl ⟨false, n + 1, p⟩) (by omega) (by show -40000 ≤ p; omega) (by omega) k2 (by
    rw [k4, m4]
    unfold D.vl D.sz
    simp only [Bool.false_eq_true, if_false]
    rw [Nat.add_mul, Int.natCast_add, Nat.one_mul, two_cast, Int.natCast_one, Int.one_mul])
  rw [← h, tld_ok k1]
/-- both together. -/
theorem nb_both {n m : Nat} {p : Int} (hn : n + m ≤ 18446744073709551615) (h1 : -2000 ≤ p) (h2 : p ≤ 8000) : addS (D.pl ⟨false, n, p⟩) (D.pl ⟨false, m, p⟩) = (D.pl ⟨false, n + m, p⟩, 0) := by
  obtain ⟨m1, m2, m3, m4, m5, m6, m7⟩ := nb_may (n := n) (by omega) h1 h2
  obtain ⟨j1, j2, j3, j4, j5, j6, j7⟩ := nb_may (n := m) (by omega) h1 h2
  obtain ⟨k1, k2, k3, k4, k5, k6, k7⟩ := nb_may (n := n + m) (by omega) h1 h2
  rw [addS_ok m1 j1]
  have h := D.add_of (a := D.pl ⟨false, n, p⟩) (b := D.pl ⟨false, m, p⟩) (c := D.pl ⟨false, n + m, p⟩) (by omega) (by omega) (by omega) k2 (by
    rw [k4, m4, j4, Nat.add_mul, Int.natCast_add])
  rw [← h, tld_ok k1]
/-- is a multiple an even one? -/
theorem nb_even (n : Nat) (p : Int) : (decide ((D.pl ⟨false, n, p⟩).x = 0) || decide (p < (D.pl ⟨false, n, p⟩).e)) = decide (n % 2 = 0) := by
  by_cases h0 : n = 0
  · subst h0
    rw [D.pl_zero (d := ⟨false, 0, p⟩) rfl]
    rfl
  · obtain ⟨t1, t2, t3⟩ := tz_blen h0
    rw [D.pl_pos (d := ⟨false, n, p⟩) h0]
    rw [show decide ((⟨false, n / 2 ^ tz n, p + (tz n : Int)⟩ : D).x = 0) = false from decide_eq_false (by show n / 2 ^ tz n ≠ 0; omega), Bool.false_or]
    refine decide_eq_decide.2 ?_
    show p < p + (tz n : Int) ↔ _
    constructor
    · intro h
      rw [t2, show tz n = (tz n - 1) + 1 by omega, Nat.pow_succ, Nat.mul_comm _ 2, Nat.mul_assoc]
      exact Nat.mul_mod_right _ _
    · intro h
      rcases Nat.eq_zero_or_pos (tz n) with h1 | h1
      · rw [h1] at t3
        simp at t3
        omega
      · omega
/-- CHOSEN as the mode has it. -/
theorem nb_up (hf : Fm B P W M E H low) (mode : Int) (neg : Bool) (A : Nat) :
    (A / 2 ^ (cellP P low A + 40000).toNat + if upB mode neg (flC P M low A) (A - valU M low (flC P M low A)) (wid M low (flC P M low A)) then 1 else 0) * 2 ^ (cellP P low A + 40000).toNat = valU M low (rC P M low mode neg A) := by
  obtain ⟨h1, h2⟩ := flC_spec hf A
  unfold rC
  split
  · rw [valU_step hf, h1, h2, Nat.add_mul, Nat.one_mul]
  · rw [Nat.add_zero, Nat.add_zero, h1]
end
end Go.Proofs.YtpachoeignpcbaaGreatDoor

namespace Go.Proofs.YtpachoeignpcbaaGreatDoor
set_option linter.unusedVariables false

/-- is it rounded up? near: how twice the size stands to both neighbours together; ev: is the one below even? -/
def upR (mode : Int) (neg : Bool) (near : Int) (ev : Bool) : Bool :=
  if mode = 0 then decide (0 < near) || (decide (near = 0) && !ev) else if mode = 2 then neg else if mode = 3 then !neg else if mode = 4 then decide (0 ≤ near) else false
theorem upR_upB {mode : Int} {neg : Bool} {c r q U : Nat} {near : Int} (hr : r ≠ 0) (hq : q % 2 = c % 2) (hn : cmpI ((2 * r : Nat) : Int) (U : Int) = near) : upR mode neg near (decide (q % 2 = 0)) = upB mode neg c r U := by
  unfold upR upB
  rw [if_neg hr]
  have hc := cmpI_cases ((2 * r : Nat) : Int) (U : Int)
  rw [hn] at hc
  clear hn
  by_cases m0 : mode = 0
  · rw [if_pos m0, if_pos m0, Bool.eq_iff_iff]
    simp only [Bool.or_eq_true, Bool.and_eq_true, decide_eq_true_eq, Bool.not_eq_true', decide_eq_false_iff_not]
    omega
  · rw [if_neg m0, if_neg m0]
    by_cases m2 : mode = 2
    · rw [if_pos m2, if_pos m2]
    · rw [if_neg m2, if_neg m2]
      by_cases m3 : mode = 3
      · rw [if_pos m3, if_pos m3]
      · rw [if_neg m3, if_neg m3]
        by_cases m4 : mode = 4
        · rw [if_pos m4, if_pos m4]
          exact decide_eq_decide.2 (by omega)
        · rw [if_neg m4, if_neg m4]
theorem cmpI_shift (a x y : Int) : cmpI (a + x) (a + y) = cmpI x y := by
  unfold cmpI
  simp only [Int.add_lt_add_iff_left]
theorem pl_false (n : Nat) (p : Int) : ∃ lx le, D.pl ⟨false, n, p⟩ = ⟨false, lx, le⟩ := by
  by_cases h0 : n = 0
  · exact ⟨0, 0, D.pl_zero (d := ⟨false, n, p⟩) h0⟩
  · exact ⟨_, _, D.pl_pos (d := ⟨false, n, p⟩) h0⟩
theorem pl_again (n : Nat) (p : Int) : D.pl (D.pl ⟨false, n, p⟩) = D.pl ⟨false, n, p⟩ := by
  by_cases h0 : n = 0
  · rw [D.pl_zero (d := ⟨false, n, p⟩) h0]
    exact D.pl_zero (d := ⟨false, 0, 0⟩) rfl
  · rw [D.pl_pos (d := ⟨false, n, p⟩) h0]
    exact pl_eval false 0 _ (by simp) (tz_blen h0).2.2 (by simp)
theorem twice_vl {dx : Nat} {de : Int} (h : -40000 ≤ de) : (⟨false, dx, de + 1⟩ : D).vl = 2 * (⟨false, dx, de⟩ : D).vl := by
  unfold D.vl D.sz
  simp only
  rw [show (de + 1 + 40000).toNat = (de + 40000).toNat + 1 by omega, Int.pow_succ]
  generalize (2 : Int) ^ (de + 40000).toNat = T
  rw [Int.mul_comm T 2, Int.mul_left_comm]
/-- what is nearest, by exact numbers. -/
theorem near_is {A T q : Nat} (hT : 0 < T) (hq : A / T = q) (hr : A % T ≠ 0) : cmpI (2 * (A : Int)) ((q + (q + 1)) * T : Nat) = cmpI ((2 * (A % T) : Nat) : Int) (T : Int) := by
  have h1 := Nat.div_add_mod A T
  rw [hq] at h1
  have e1 : 2 * (A : Int) = ((2 * (T * q) : Nat) : Int) + ((2 * (A % T) : Nat) : Int) := by omega
  have e2 : (((q + (q + 1)) * T : Nat) : Int) = ((2 * (T * q) : Nat) : Int) + (T : Int) := by
    have : (q + (q + 1)) * T = 2 * (T * q) + T := by rw [show q + (q + 1) = 2 * q + 1 by omega, Nat.add_mul, Nat.one_mul, Nat.mul_assoc, Nat.mul_comm q T]
    rw [this]
    omega
  rw [e1, e2, cmpI_shift]
end Go.Proofs.YtpachoeignpcbaaGreatDoor
