
/-
  The reference's Mul, Cmp, Floor.
-/
import Derived.Test.YtkjbejdeejpdoaaDoorRc
namespace Go.Proofs.YtkjbejdeejpdoaaDoor
open Go.RowKit
set_option linter.unusedVariables false

theorem rcmp_as {A1 A2 : Option Addr} {n1 c1 n2 c2 x y : Nat} {w : World} (k : Int) (h1 : BR w A1 n1 c1 x) (h2 : BR w A2 n2 c2 y) (s1 : n1 ≤ 1000000) (s2 : n2 ≤ 1000000) (hk : cmpI (x : Int) (y : Int) = k) :
    Calls Tryd.prog 82 #[.slice A1 n1 c1, .slice A2 n2 c2] w fun e w' => e = .returned (.int .i64 k) ∧ w = w' := by
  subst hk; exact rcmp_any h1 h2 s1 s2
/-- what the reference's Cmp reckons. -/
theorem vl_sgn {n : Bool} {x : Nat} {e : Int} (h : x ≠ 0) : if n then (⟨n, x, e⟩ : D).vl < 0 else 0 < (⟨n, x, e⟩ : D).vl := by
  have h1 := D.vl_neg (d := ⟨n, x, e⟩)
  have h2 := D.vl_zero (d := ⟨n, x, e⟩)
  simp only at h1 h2
  cases n
  · have : ¬ (⟨false, x, e⟩ : D).vl < 0 := fun h => by have := (h1.1 h).1; cases this
    have : (⟨false, x, e⟩ : D).vl ≠ 0 := fun e => h (h2.1 e)
    show 0 < _
    omega
  · exact h1.2 ⟨rfl, h⟩
theorem cmp_shift_ref {n : Bool} {x y i j : Nat} {ea eb m : Int} (hm : -40000 ≤ m) (hi : ea - m = (i : Int)) (hj : eb - m = (j : Int)) : cmpI (⟨n, x, ea⟩ : D).vl (⟨n, y, eb⟩ : D).vl = if n then -cmpI ((x * 2 ^ i : Nat) : Int) ((y * 2 ^ j : Nat) : Int) else cmpI ((x * 2 ^ i : Nat) : Int) ((y * 2 ^ j : Nat) : Int) := by
  rw [D.vl_ab, D.vl_ab, ab_at hm hi, ab_at hm hj, cmp_scale (x * 2 ^ i) (y * 2 ^ j) (m + 40000).toNat]
  generalize x * 2 ^ i * 2 ^ (m + 40000).toNat = X
  generalize y * 2 ^ j * 2 ^ (m + 40000).toNat = Y
  cases n
  · rfl
  · show cmpI (-(X : Int)) (-(Y : Int)) = -cmpI (X : Int) (Y : Int)
    unfold cmpI
    rcases Int.lt_trichotomy (X : Int) (Y : Int) with h | h | h
    · rw [if_neg (by omega), if_pos (by omega), if_pos h]; rfl
    · rw [if_neg (by omega), if_neg (by omega), if_neg (by omega), if_neg (by omega)]; rfl
    · rw [if_pos (by omega), if_neg (by omega), if_pos h]

end Go.Proofs.YtkjbejdeejpdoaaDoor
