
/-
  The walk of the law NatParts.
-/
import Derived.Test.YthaehfdjldjdiaaDoorBack
namespace Go.Proofs.YthaehfdjldjdiaaDoor
open Go.RowKit
set_option linter.unusedVariables false

theorem left_fit {A : Option Addr} {n c x : Nat} {w : World} (h : Arg w A n c x) (hs : n ≤ 1000000) (i : Nat) (hfit : blen x + i ≤ 16384) :
    Calls Tryd.prog 58 #[.slice A n c, .int .i64 (i : Int)] w (NatOk w (x * 2 ^ i) (n + i / 32 + 1)) := by
  by_cases hx : x = 0
  · subst hx
    refine (left_none h (i : Int) (by omega)).mono ?_
    rintro e w' ⟨A', m, rfl, hr, hm, hb⟩
    exact ⟨A', m, rfl, by rw [Nat.zero_mul]; exact hr, by omega, hb⟩
  · exact left_any h hs hx i hfit
theorem bit_top {x : Nat} (hx : x ≠ 0) : x / 2 ^ (blen x - 1) % 2 = 1 := by
  obtain ⟨h1, h2⟩ := blen_pos hx
  have h3 := blen_self x
  obtain ⟨m, hm⟩ : ∃ m, blen x = m + 1 := ⟨blen x - 1, by omega⟩
  rw [hm] at h1 h3 ⊢
  simp only [Nat.add_sub_cancel] at h1 ⊢
  have h4 : x / 2 ^ m = 1 := by
    rw [Nat.div_eq_iff (Nat.two_pow_pos m)]
    rw [Nat.pow_succ] at h3
    omega
  rw [h4]
theorem Ctz.bit {x k : Nat} (h : Ctz x k) : x / 2 ^ k % 2 = 1 := by
  obtain ⟨m, hm⟩ := h.2
  rw [hm, Nat.mul_div_cancel_left _ (Nat.two_pow_pos k)]
  omega
theorem blen_le_of {x y : Nat} (h : x ≤ y) : blen x ≤ blen y := (blen_le x _).2 (Nat.lt_of_le_of_lt h (blen_self y))
theorem blen_one_shift (k : Nat) : blen 1 = 1 := blen_unique (k := 0) (by omega) (by omega)

end Go.Proofs.YthaehfdjldjdiaaDoor
