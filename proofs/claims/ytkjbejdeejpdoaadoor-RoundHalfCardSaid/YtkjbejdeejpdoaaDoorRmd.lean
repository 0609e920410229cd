
/-
  What rounding tells, and what the laws of layer 4 make of it: nothing of a program.
-/
import Derived.Test.YtkjbejdeejpdoaaDoorRmc
namespace Go.Proofs.YtkjbejdeejpdoaaDoor
open Go.RowKit
set_option linter.unusedVariables false

/-- may it be rounded? -/
def mayR (a : D) : Bool := a.may && (decide (a.x = 0) || (a.pl.may && decide ((blen a.x : Int) - 1 + a.e ≤ 8000)))
/-- what is told of a number beyond. -/
def begS (M E H : Nat) (mode : Int) (neg : Bool) : Nat := sgn H neg (if tow0 mode neg then M * E - 1 else M * E)
/-- is its size below the least normal one's? -/
def tinyS (M : Nat) (low : Int) (A : Nat) : Bool := decide (A < M * 2 ^ (low + 40000).toNat)
def flgS (P M : Nat) (low : Int) (A : Nat) : Int := if valU M low (flC P M low A) = A then 0 else if tinyS M low A then 3 else 1
def roundS (P M E H : Nat) (low : Int) (mode : Int) (a : D) (neg : Bool) : Nat × Int × Int :=
  if mode < 0 ∨ 4 < mode then (0, 0, 1) else if mayR a then
    (if a.x = 0 then (sgn H neg 0, 0, 0) else if rC P M low mode a.neg a.vl.natAbs < M * E then (sgn H a.neg (rC P M low mode a.neg a.vl.natAbs), flgS P M low a.vl.natAbs, 0) else (begS M E H mode a.neg, 5, 0))
  else (0, 0, 3)
section
variable {B P W M E H : Nat} {low : Int}
theorem roundS_zero {mode : Int} (hmode : 0 ≤ mode ∧ mode ≤ 4) {a : D} (hm : mayR a = true) (h0 : a.x = 0) (neg : Bool) : roundS P M E H low mode a neg = (sgn H neg 0, 0, 0) := by
  unfold roundS
  rw [if_neg (by omega), hm, if_pos rfl, if_pos h0]
/-- its bits, in one way. -/
theorem roundS_bits {mode : Int} (hmode : 0 ≤ mode ∧ mode ≤ 4) {a : D} (hm : mayR a = true) (h0 : a.x ≠ 0) (neg : Bool) :
    (roundS P M E H low mode a neg).1 = sgn H a.neg (rndC P M E low mode a.neg a.vl.natAbs) ∧ (roundS P M E H low mode a neg).2.2 = 0 ∧
    (roundS P M E H low mode a neg).2.1 = (if rC P M low mode a.neg a.vl.natAbs < M * E then flgS P M low a.vl.natAbs else 5) := by
  unfold roundS
  rw [if_neg (by omega), hm, if_pos rfl, if_neg h0]
  by_cases h : rC P M low mode a.neg a.vl.natAbs < M * E
  · rw [if_pos h, if_pos h]
    refine ⟨?_, rfl, rfl⟩
    unfold rndC capC
    rw [if_pos h]
  · rw [if_neg h, if_neg h]
    refine ⟨?_, rfl, rfl⟩
    unfold rndC capC begS
    rw [if_neg h]
/-- a plain number that may be, of no great top, may be rounded. -/
theorem mayR_of {a : D} (hm : a.may = true) (hp : a.pl.may = true) (ht : (blen a.x : Int) - 1 + a.e ≤ 8000) : mayR a = true := by
  unfold mayR
  rw [hm, hp, decide_eq_true ht]
  simp
theorem val_mayR (hf : Fm B P W M E H low) (b : Nat) (s : Bool) : mayR (D.pl ⟨s, valN M E b, valP M E low b⟩) = true := by
  obtain ⟨h1, h2⟩ := val_may hf b s
  obtain ⟨p1, p2⟩ := valP_bd hf b
  obtain ⟨b1, b2, b3, b4, b5, b6, b7, b8, b9, b10, b11, b12, b13, b14, b15⟩ := hf.bd
  have hn := valN_lt hf b
  by_cases h0 : valN M E b = 0
  · unfold mayR
    rw [h2, D.pl_zero (d := ⟨s, valN M E b, valP M E low b⟩) h0]
    rfl
  · have hpp : D.pl (D.pl ⟨s, valN M E b, valP M E low b⟩) = D.pl ⟨s, valN M E b, valP M E low b⟩ := by
      rw [D.pl_pos (d := ⟨s, valN M E b, valP M E low b⟩) h0]
      exact pl_eval s 0 _ (by simp) (tz_blen h0).2.2 (by simp)
    refine mayR_of h2 (by rw [hpp]; exact h2) ?_
    rw [D.pl_pos (d := ⟨s, valN M E b, valP M E low b⟩) h0]
    have h5 := blen_div_tz h0
    have h6 : blen (valN M E b) ≤ 64 := blen_lt_pow (by omega)
    show (blen (valN M E b / 2 ^ tz (valN M E b)) : Int) - 1 + (valP M E low b + (tz (valN M E b) : Int)) ≤ 8000
    omega
/-- bits by sign and size. -/
theorem bits_sgn (hf : Fm B P W M E H low) (b : Nat) (hb : b < 2 * H) : b = sgn H (decide (b / H % 2 = 1)) (b % H) ∧ b % H < H ∧ b % H / M % (E + 1) = b / M % (E + 1) ∧ b % H % M = b % M := by
  obtain ⟨b1, b2, b3, b4, b5, b6, b7, b8, b9, b10, b11, b12, b13, b14, b15⟩ := hf.bd
  obtain ⟨e1, e2⟩ := hf.hlf
  have hH : 0 < H := by omega
  have hM : 0 < M := by omega
  have h1 := Nat.div_add_mod b H
  have h2 : b / H < 2 := by rw [Nat.div_lt_iff_lt_mul hH]; exact hb
  have h3 : b % H < H := Nat.mod_lt _ hH
  refine ⟨?_, h3, ?_, ?_⟩
  · unfold sgn
    rcases Nat.lt_or_ge (b / H) 1 with h | h
    · have h4 : b / H = 0 := Nat.lt_one_iff.1 h
      rw [h4, Nat.mul_zero] at h1
      rw [h4, if_neg (by decide)]
      omega
    · have h4 : b / H = 1 := Nat.le_antisymm (Nat.le_of_lt_succ h2) h
      rw [h4, Nat.mul_one] at h1
      rw [h4, if_pos (by decide)]
      omega
  · rw [← e1, Nat.mod_mul_right_div_self, Nat.mod_mod]
  · rw [← e1, Nat.mod_mul_right_mod]
/-- bits of a sign and a size, taken apart. -/
theorem sgn_parts (hf : Fm B P W M E H low) (neg : Bool) (c : Nat) (hc : c < H) : sgn H neg c % M = c % M ∧ sgn H neg c / M % (E + 1) = c / M ∧ decide (sgn H neg c / H % 2 = 1) = neg ∧ sgn H neg c < 2 * H ∧
    valN M E (sgn H neg c) = valN M E c ∧ valP M E low (sgn H neg c) = valP M E low c := by
  obtain ⟨b1, b2, b3, b4, b5, b6, b7, b8, b9, b10, b11, b12, b13, b14, b15⟩ := hf.bd
  obtain ⟨f1, f2, f3, f4, f5⟩ := fields hf c hc
  obtain ⟨e1, e2⟩ := hf.hlf
  have hM : 0 < M := by omega
  have hb : sgn H neg c % M = c % M ∧ sgn H neg c / M % (E + 1) = c / M % (E + 1) ∧ decide (sgn H neg c / H % 2 = 1) = neg ∧ sgn H neg c < 2 * H := by
    unfold sgn
    cases neg
    · rw [if_neg (by decide)]
      exact ⟨rfl, rfl, by rw [f2]; rfl, by omega⟩
    · rw [if_pos rfl]
      have g : H + c = c + M * (E + 1) := by omega
      refine ⟨by rw [g, Nat.add_mul_mod_self_left], by rw [g, Nat.add_mul_div_left _ _ hM, Nat.add_mod_right], ?_, by omega⟩
      rw [show (H + c) / H = 1 by rw [Nat.add_comm, Nat.add_div_right _ (by omega), Nat.div_eq_of_lt hc]]
      rfl
  obtain ⟨k1, k2, k3, k4⟩ := hb
  refine ⟨k1, by rw [k2, f1], k3, k4, ?_, ?_⟩
  · unfold valN; rw [k1, k2]
  · unfold valP; rw [k2]
/-- the number of bits that have one, in units. -/
theorem val_abs (hf : Fm B P W M E H low) (neg : Bool) (c : Nat) (hc : c < M * E) :
    valS M E H low (sgn H neg c) = (D.pl ⟨neg, valN M E c, valP M E low c⟩, 0) ∧ (D.pl ⟨neg, valN M E c, valP M E low c⟩).vl = (if neg then -(valU M low c : Int) else (valU M low c : Int)) := by
  obtain ⟨a1, a2⟩ := lt_finite hf c hc
  obtain ⟨k1, k2, k3, k4, k5, k6⟩ := sgn_parts hf neg c a1
  obtain ⟨p1, p2⟩ := valP_bd hf c
  rw [(fields hf c a1).1] at a2
  constructor
  · unfold valS
    rw [if_pos k4, k2, if_neg a2, k3, k5, k6]
  · rw [D.pl_vl (by show -40000 ≤ valP M E low c; omega), ← valU_valV hf c a1]
    unfold D.vl D.sz valV
    cases neg
    · simp
    · simp [Int.neg_mul]
/-- WHAT IS A NUMBER OF THE FORMAT IS ROUNDED TO ITSELF. -/
theorem round_keeps (hf : Fm B P W M E H low) (b : Nat) (hb : b < 2 * H) (hx : b / M % (E + 1) ≠ E) {mode : Int} (hmode : 0 ≤ mode ∧ mode ≤ 4) :
    roundS P M E H low mode (D.pl ⟨decide (b / H % 2 = 1), valN M E b, valP M E low b⟩) (decide (b / H % 2 = 1)) = (b, 0, 0) := by
  obtain ⟨s1, s2, s3, s4⟩ := bits_sgn hf b hb
  have hm := val_mayR hf b (decide (b / H % 2 = 1))
  have hc : b % H < M * E := finite_lt hf _ s2 (by rw [s3]; exact hx)
  have hva := val_abs hf (decide (b / H % 2 = 1)) (b % H) hc
  obtain ⟨k1, k2, k3, k4, k5, k6⟩ := sgn_parts hf (decide (b / H % 2 = 1)) (b % H) s2
  rw [← s1] at k5 k6
  rw [← k5, ← k6] at hva
  obtain ⟨s, hs⟩ : ∃ s, decide (b / H % 2 = 1) = s := ⟨_, rfl⟩
  rw [hs] at hm hva s1 ⊢
  by_cases h0 : (D.pl ⟨s, valN M E b, valP M E low b⟩).x = 0
  · rw [roundS_zero hmode hm h0]
    have h1 : (D.pl ⟨s, valN M E b, valP M E low b⟩).vl.natAbs = 0 := by rw [D.vl_natAbs, h0, Nat.zero_mul]
    have h2 : valU M low (b % H) = 0 := by
      rw [hva.2] at h1
      cases s <;> simpa using h1
    have h3 : b % H = 0 := by
      have := (valU_mono hf (a := b % H) (b := 0)).2.1 (by rw [h2]; exact Nat.zero_le _)
      omega
    rw [h3] at s1
    rw [← s1]
  · have habs : (D.pl ⟨s, valN M E b, valP M E low b⟩).vl.natAbs = valU M low (b % H) := by
      rw [hva.2]
      cases s <;> simp
    have hneg : (D.pl ⟨s, valN M E b, valP M E low b⟩).neg = s := by
      have hn : valN M E b ≠ 0 := fun h => h0 (by rw [D.pl_zero (d := ⟨s, valN M E b, valP M E low b⟩) h])
      rw [D.pl_pos (d := ⟨s, valN M E b, valP M E low b⟩) hn]
    obtain ⟨r1, r2, r3⟩ := roundS_bits (P := P) (M := M) (E := E) (H := H) (low := low) hmode hm h0 s
    rw [habs, hneg] at r1 r3
    rw [rndC_val hf _ _ _ hc, ← s1] at r1
    rw [rC_val hf, if_pos hc] at r3
    unfold flgS at r3
    rw [fl_val hf, if_pos rfl] at r3
    exact Prod.ext r1 (Prod.ext r3 r2)
end
end Go.Proofs.YtkjbejdeejpdoaaDoor
