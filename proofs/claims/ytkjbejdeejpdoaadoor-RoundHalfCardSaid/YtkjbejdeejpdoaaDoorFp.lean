
/-
  The walk of the reference of layer 3: Put.
-/
import Derived.Test.YtkjbejdeejpdoaaDoorFr
import Derived.Test.YtkjbejdeejpdoaaDoorFf
import Derived.Test.YtkjbejdeejpdoaaDoorRA
namespace Go.Proofs.YtkjbejdeejpdoaaDoor
open Go.RowKit
set_option linter.unusedVariables false

theorem rleft_as {A : Option Addr} {n c x : Nat} {w : World} (h : BR w A n c x) (hn : n ≤ 1000000) (i : Nat) (hi : i ≤ 1000000) {y : Nat} (hy : x * 2 ^ i = y) :
    Calls Tryd.prog 101 #[.slice A n c, .int .i64 i] w (BitsPost w y) := hy ▸ rleft_fit h hn i hi
theorem shifted_lt {B P W M E H : Nat} {low : Int} (hf : Fm B P W M E H low) {dx i : Nat} (h : blen dx + i ≤ P) : dx * 2 ^ i < 2 * M := by
  obtain ⟨_, b2, _⟩ := hf.bd
  rw [← hf.pP, Nat.mul_comm 2, ← Nat.pow_succ, show (P - 1).succ = P by omega]
  have h1 := (blen_le dx (blen dx)).1 (Nat.le_refl _)
  have h2 : dx * 2 ^ i < 2 ^ blen dx * 2 ^ i := Nat.mul_lt_mul_of_pos_right h1 (Nat.two_pow_pos _)
  rw [← Nat.pow_add] at h2
  exact Nat.lt_of_lt_of_le h2 (Nat.pow_le_pow_right (by omega) h)
theorem shifted_ge {B P W M E H : Nat} {low : Int} (hf : Fm B P W M E H low) {dx i : Nat} (h0 : dx ≠ 0) (h : blen dx + i = P) : M ≤ dx * 2 ^ i := by
  obtain ⟨h1, h2⟩ := blen_pos h0
  have h3 : 2 ^ (blen dx - 1) * 2 ^ i ≤ dx * 2 ^ i := Nat.mul_le_mul_right _ h1
  rw [← Nat.pow_add, show blen dx - 1 + i = P - 1 by omega, hf.pP] at h3
  exact h3
end Go.Proofs.YtkjbejdeejpdoaaDoor
