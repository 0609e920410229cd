/-
  The walks of the reference of layer 3: small functions.
  The walk of the reference of layer 3: Value.
  The walk of the reference of layer 3: Put.
-/
import Derived.Test.YtpachoeignpcbaaDoorFA
import Derived.Test.YtpachoeignpcbaaDoorRA
namespace Go.Proofs.YtpachoeignpcbaaDoor
open Go.RowKit
set_option linter.unusedVariables false

theorem half_bit {r Q M : Nat} (hM : M = 2 * Q) (hr : r < M) : r / Q % 2 = 1 ↔ Q ≤ r := by
  have hQ : 0 < Q := by omega
  constructor
  · intro h
    rcases Nat.lt_or_ge r Q with h1 | h1
    · rw [Nat.div_eq_of_lt h1] at h; omega
    · exact h1
  · intro h
    have h1 : r = (r - Q) + Q * 1 := by omega
    rw [h1, Nat.add_mul_div_left _ _ hQ, Nat.div_eq_of_lt (by omega)]
/-- bits by their parts. -/
theorem bits_parts {B P W M E H : Nat} {low : Int} (hf : Fm B P W M E H low) (b : Nat) : b % (2 * H) = b / H % 2 * H + (b / M % (E + 1) * M + b % M) ∧ b / M % (E + 1) * M + b % M < H := by
  obtain ⟨e1, e2⟩ := hf.hlf
  have hM : 0 < M := by have := hf.bd; omega
  have h1 : b % H = b / M % (E + 1) * M + b % M := by
    rw [← e1, Nat.mod_mul, Nat.mul_comm M, Nat.add_comm]
  refine ⟨?_, by rw [← h1]; exact Nat.mod_lt _ (by have := hf.bd; omega)⟩
  rw [← h1, Nat.mul_comm 2 H, Nat.mod_mul, Nat.mul_comm H, Nat.add_comm]
theorem qts_high {B P W M E H : Nat} {low : Int} (hf : Fm B P W M E H low) (b : Nat) : b % (2 * H) / (M / 2) % 2 = b % M / (M / 2) % 2 := by
  obtain ⟨e1, e2⟩ := hf.hlf
  have hM : 0 < M / 2 := by have := hf.bd; omega
  rw [(bits_parts hf b).1]
  generalize b / H % 2 = s
  generalize b / M % (E + 1) = x
  generalize b % M = r
  generalize M / 2 = Q at *
  have h : s * H + (x * M + r) = r + Q * (2 * (s * (E + 1) + x)) := by
    have h1 : s * (2 * Q * (E + 1)) = 2 * (Q * (s * (E + 1))) := by ac_rfl
    have h2 : x * (2 * Q) = 2 * (Q * x) := by ac_rfl
    have h3 : Q * (2 * (s * (E + 1) + x)) = 2 * (Q * (s * (E + 1))) + 2 * (Q * x) := by rw [Nat.mul_left_comm, Nat.mul_add, Nat.mul_add]
    rw [← e1, e2, h1, h2, h3]
    omega
  rw [h, Nat.add_mul_div_left _ _ hM]
  omega
end Go.Proofs.YtpachoeignpcbaaDoor

namespace Go.Proofs.YtpachoeignpcbaaDoor
open Go.RowKit
set_option linter.unusedVariables false

end Go.Proofs.YtpachoeignpcbaaDoor

namespace Go.Proofs.YtpachoeignpcbaaDoor
open Go.RowKit
set_option linter.unusedVariables false

theorem shifted_lt {B P W M E H : Nat} {low : Int} (hf : Fm B P W M E H low) {dx i : Nat} (h : blen dx + i ≤ P) : dx * 2 ^ i < 2 * M := by
  obtain ⟨_, b2, _⟩ := hf.bd
  rw [← hf.pP, Nat.mul_comm 2, ← Nat.pow_succ, show (P - 1).succ = P by omega]
  have h1 := (blen_le dx (blen dx)).1 (Nat.le_refl _)
  have h2 : dx * 2 ^ i < 2 ^ blen dx * 2 ^ i := Nat.mul_lt_mul_of_pos_right h1 (Nat.two_pow_pos _)
  rw [← Nat.pow_add] at h2
  exact Nat.lt_of_lt_of_le h2 (Nat.pow_le_pow_right (by omega) h)
theorem shifted_ge {B P W M E H : Nat} {low : Int} (hf : Fm B P W M E H low) {dx i : Nat} (h0 : dx ≠ 0) (h : blen dx + i = P) : M ≤ dx * 2 ^ i := by
  obtain ⟨h1, h2⟩ := blen_pos h0
  have h3 : 2 ^ (blen dx - 1) * 2 ^ i ≤ dx * 2 ^ i := Nat.mul_le_mul_right _ h1
  rw [← Nat.pow_add, show blen dx - 1 + i = P - 1 by omega, hf.pP] at h3
  exact h3
end Go.Proofs.YtpachoeignpcbaaDoor
