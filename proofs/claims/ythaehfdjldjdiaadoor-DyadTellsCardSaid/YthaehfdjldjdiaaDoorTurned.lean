
/-
  The walk of the law NatTurned.
-/
import Derived.Test.YthaehfdjldjdiaaDoorAwake
namespace Go.Proofs.YthaehfdjldjdiaaDoor
open Go.RowKit
set_option linter.unusedVariables false

theorem Arg.blen {w : World} {A : Option Addr} {n c x : Nat} (h : Arg w A n c x) : blen x ≤ 32 * n := by
  obtain ⟨xs, h1, h2, h3, h4⟩ := h
  rw [blen_le, ← pw_two, ← h4, ← h1.len]
  exact val_lt xs h1.2
theorem blen_self (x : Nat) : x < 2 ^ blen x := (blen_le x (blen x)).1 (Nat.le_refl _)
theorem blen_mul (x y : Nat) : blen (x * y) ≤ blen x + blen y := by
  rw [blen_le, Nat.pow_add]
  exact Nat.mul_lt_mul'' (blen_self x) (blen_self y)
theorem blen_add (x y : Nat) : blen (x + y) ≤ blen x + blen y + 1 := by
  rw [blen_le, Nat.pow_succ]
  have h1 : x < 2 ^ (blen x + blen y) := Nat.lt_of_lt_of_le (blen_self x) (Nat.pow_le_pow_right (by omega) (by omega))
  have h2 : y < 2 ^ (blen x + blen y) := Nat.lt_of_lt_of_le (blen_self y) (Nat.pow_le_pow_right (by omega) (by omega))
  omega
theorem Arg.n_le {w : World} {A : Option Addr} {n c x : Nat} (h : Arg w A n c x) : n ≤ 9223372036854775807 := by
  obtain ⟨xs, h1, h2, h3, h4⟩ := h
  unfold maxLen at h3
  omega

end Go.Proofs.YthaehfdjldjdiaaDoor
