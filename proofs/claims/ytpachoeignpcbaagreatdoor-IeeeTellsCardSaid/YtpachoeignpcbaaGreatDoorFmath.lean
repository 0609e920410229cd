
/-
  Plain mathematics of formats: their parts, by numbers.
-/
import Derived.Test.YtpachoeignpcbaaGreatDoorDE
namespace Go.Proofs.YtpachoeignpcbaaGreatDoor
open Go.RowKit
set_option linter.unusedVariables false

/-- a format's numbers: Bits, P, Wide; 2^(P-1), 2^Wide - 1, 2^(Bits-1), the least place. -/
def Fm (B P W M E H : Nat) (low : Int) : Prop :=
  (B = 16 ∧ P = 11 ∧ W = 5 ∧ M = 1024 ∧ E = 31 ∧ H = 32768 ∧ low = -24) ∨
  (B = 32 ∧ P = 24 ∧ W = 8 ∧ M = 8388608 ∧ E = 255 ∧ H = 2147483648 ∧ low = -149) ∨
  (B = 64 ∧ P = 53 ∧ W = 11 ∧ M = 4503599627370496 ∧ E = 2047 ∧ H = 9223372036854775808 ∧ low = -1074)

section
variable {B P W M E H : Nat} {low : Int}
theorem Fm.bd (h : Fm B P W M E H low) : B = P + W ∧ 11 ≤ P ∧ P ≤ 53 ∧ 5 ≤ W ∧ W ≤ 11 ∧ 16 ≤ B ∧ B ≤ 64 ∧ -1074 ≤ low ∧ low ≤ -24 ∧ 31 ≤ E ∧ E ≤ 2047 ∧ 1024 ≤ M ∧ M ≤ 4503599627370496 ∧ 32768 ≤ H ∧ H ≤ 9223372036854775808 := by
  rcases h with ⟨rfl, rfl, rfl, rfl, rfl, rfl, rfl⟩ | ⟨rfl, rfl, rfl, rfl, rfl, rfl, rfl⟩ | ⟨rfl, rfl, rfl, rfl, rfl, rfl, rfl⟩ <;> omega
theorem Fm.pP (h : Fm B P W M E H low) : 2 ^ (P - 1) = M := by
  rcases h with ⟨rfl, rfl, rfl, rfl, rfl, rfl, rfl⟩ | ⟨rfl, rfl, rfl, rfl, rfl, rfl, rfl⟩ | ⟨rfl, rfl, rfl, rfl, rfl, rfl, rfl⟩ <;> rfl
theorem Fm.pQ (h : Fm B P W M E H low) : 2 ^ (P - 2) = M / 2 := by
  rcases h with ⟨rfl, rfl, rfl, rfl, rfl, rfl, rfl⟩ | ⟨rfl, rfl, rfl, rfl, rfl, rfl, rfl⟩ | ⟨rfl, rfl, rfl, rfl, rfl, rfl, rfl⟩ <;> rfl
theorem Fm.pW (h : Fm B P W M E H low) : 2 ^ W = E + 1 := by
  rcases h with ⟨rfl, rfl, rfl, rfl, rfl, rfl, rfl⟩ | ⟨rfl, rfl, rfl, rfl, rfl, rfl, rfl⟩ | ⟨rfl, rfl, rfl, rfl, rfl, rfl, rfl⟩ <;> rfl
theorem Fm.pB (h : Fm B P W M E H low) : 2 ^ (B - 1) = H := by
  rcases h with ⟨rfl, rfl, rfl, rfl, rfl, rfl, rfl⟩ | ⟨rfl, rfl, rfl, rfl, rfl, rfl, rfl⟩ | ⟨rfl, rfl, rfl, rfl, rfl, rfl, rfl⟩ <;> rfl
theorem Fm.pB2 (h : Fm B P W M E H low) : 2 ^ B = 2 * H := by
  rcases h with ⟨rfl, rfl, rfl, rfl, rfl, rfl, rfl⟩ | ⟨rfl, rfl, rfl, rfl, rfl, rfl, rfl⟩ | ⟨rfl, rfl, rfl, rfl, rfl, rfl, rfl⟩ <;> rfl
theorem Fm.pBias (h : Fm B P W M E H low) : 2 ^ (W - 1) = (3 - (P : Int) - low).toNat := by
  rcases h with ⟨rfl, rfl, rfl, rfl, rfl, rfl, rfl⟩ | ⟨rfl, rfl, rfl, rfl, rfl, rfl, rfl⟩ | ⟨rfl, rfl, rfl, rfl, rfl, rfl, rfl⟩ <;> rfl
theorem Fm.hlf (h : Fm B P W M E H low) : M * (E + 1) = H ∧ M = 2 * (M / 2) := by
  rcases h with ⟨rfl, rfl, rfl, rfl, rfl, rfl, rfl⟩ | ⟨rfl, rfl, rfl, rfl, rfl, rfl, rfl⟩ | ⟨rfl, rfl, rfl, rfl, rfl, rfl, rfl⟩ <;> omega
end

theorem and_u64 (a b : Nat) (ha : a < 18446744073709551616) (hb : b < 18446744073709551616) : bits .and .u64 (a : Int) (b : Int) = ((a &&& b : Nat) : Int) := by
  have hx : a &&& b < 2 ^ 64 := Nat.and_lt_two_pow _ (by omega)
  have h1 : ∀ a : Nat, a < 18446744073709551616 → (BitVec.ofInt 64 (a : Int)).toNat = a := fun a ha => by
    rw [BitVec.ofInt_natCast, BitVec.toNat_ofNat]; exact Nat.mod_eq_of_lt (by omega)
  show IntKind.u64.wrap ((BitVec.ofInt 64 (a : Int) &&& BitVec.ofInt 64 (b : Int)).toNat : Int) = _
  rw [BitVec.toNat_and, h1 a ha, h1 b hb, IntKind.wrap_u64]
  omega
/-- the lowest bits. -/
theorem and_ones (b k m : Nat) (hm : 2 ^ k = m + 1) : b &&& m = b % 2 ^ k := by
  rw [show m = 2 ^ k - 1 by omega, Nat.and_two_pow_sub_one_eq_mod]
/-- one bit. -/
theorem and_one_bit (b k : Nat) : b &&& 2 ^ k = b / 2 ^ k % 2 * 2 ^ k := by
  apply Nat.eq_of_testBit_eq
  intro i
  rw [Nat.testBit_and, Nat.testBit_two_pow]
  have h : b.testBit k = decide (b / 2 ^ k % 2 = 1) := Nat.testBit_eq_decide_div_mod_eq
  have : b / 2 ^ k % 2 < 2 := Nat.mod_lt _ (by omega)
  by_cases h1 : b / 2 ^ k % 2 = 1
  · rw [h1, Nat.one_mul, Nat.testBit_two_pow]
    by_cases e : k = i
    · subst e; simp [h, h1]
    · simp [e]
  · have h2 : b / 2 ^ k % 2 = 0 := by omega
    rw [h2, Nat.zero_mul]
    by_cases e : k = i
    · subst e; simp [h, h2]
    · simp [e]
/-- a bit above. -/
theorem or_above (k r : Nat) (hr : r < 2 ^ k) : r ||| 2 ^ k = 2 ^ k + r := by
  have := Nat.two_pow_add_eq_or_of_lt hr 1
  rw [Nat.mul_one] at this
  rw [Nat.or_comm, this]
theorem or_above' (k r : Nat) (hr : r < 2 ^ k) : 2 ^ k ||| r = 2 ^ k + r := by
  rw [Nat.or_comm]; exact or_above k r hr
/-- one bit more. -/
theorem or_one_bit (b k : Nat) : b ||| 2 ^ k = if b / 2 ^ k % 2 = 1 then b else b + 2 ^ k := by
  have h0 : b = 2 ^ (k + 1) * (b / 2 ^ (k + 1)) + b % 2 ^ (k + 1) := (Nat.div_add_mod _ _).symm
  have h1 : b / 2 ^ k % 2 = b % 2 ^ (k + 1) / 2 ^ k := by
    rw [Nat.pow_succ, Nat.mod_mul_right_div_self]
  have hr : b % 2 ^ (k + 1) < 2 ^ (k + 1) := Nat.mod_lt _ (Nat.two_pow_pos _)
  generalize b / 2 ^ (k + 1) = q at *
  generalize b % 2 ^ (k + 1) = r at *
  rw [h1]
  clear h1
  subst h0
  have hp := Nat.two_pow_pos k
  have h2 : 2 ^ (k + 1) = 2 * 2 ^ k := by rw [Nat.pow_succ]; omega
  by_cases hb : r < 2 ^ k
  · rw [if_neg (by rw [Nat.div_eq_of_lt hb]; decide), Nat.two_pow_add_eq_or_of_lt hr, Nat.or_assoc, or_above k r hb, ← Nat.two_pow_add_eq_or_of_lt (by omega), ← Nat.two_pow_add_eq_or_of_lt hr]
    omega
  · have h3 : r / 2 ^ k = 1 := by
      have e1 : r = (r - 2 ^ k) + 1 * 2 ^ k := by omega
      rw [e1, Nat.add_mul_div_right _ _ hp, Nat.div_eq_of_lt (by omega)]
    rw [if_pos h3, Nat.two_pow_add_eq_or_of_lt hr, Nat.or_assoc]
    congr 1
    have h4 : r = 2 ^ k ||| (r - 2 ^ k) := by rw [or_above' k _ (by omega)]; omega
    generalize r - 2 ^ k = s at *
    subst h4
    rw [Nat.or_comm (2 ^ k ||| s), ← Nat.or_assoc, Nat.or_self]
end Go.Proofs.YtpachoeignpcbaaGreatDoor
