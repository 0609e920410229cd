
/-
  Rounding up, by what is lost against half a place; doubles.
-/
import Derived.Test.YtkjbejdeejpdoaaDoorRmg
namespace Go.Proofs.YtkjbejdeejpdoaaDoor
set_option linter.unusedVariables false

/-- is it rounded up? near: how twice the size stands to both neighbours together; ev: is the one below even? -/
def upR (mode : Int) (neg : Bool) (near : Int) (ev : Bool) : Bool :=
  if mode = 0 then decide (0 < near) || (decide (near = 0) && !ev) else if mode = 2 then neg else if mode = 3 then !neg else if mode = 4 then decide (0 ≤ near) else false
theorem upR_upB {mode : Int} {neg : Bool} {c r q U : Nat} {near : Int} (hr : r ≠ 0) (hq : q % 2 = c % 2) (hn : cmpI ((2 * r : Nat) : Int) (U : Int) = near) : upR mode neg near (decide (q % 2 = 0)) = upB mode neg c r U := by
  unfold upR upB
  rw [if_neg hr]
  have hc := cmpI_cases ((2 * r : Nat) : Int) (U : Int)
  rw [hn] at hc
  clear hn
  by_cases m0 : mode = 0
  · rw [if_pos m0, if_pos m0, Bool.eq_iff_iff]
    simp only [Bool.or_eq_true, Bool.and_eq_true, decide_eq_true_eq, Bool.not_eq_true', decide_eq_false_iff_not]
    omega
  · rw [if_neg m0, if_neg m0]
    by_cases m2 : mode = 2
    · rw [if_pos m2, if_pos m2]
    · rw [if_neg m2, if_neg m2]
      by_cases m3 : mode = 3
      · rw [if_pos m3, if_pos m3]
      · rw [if_neg m3, if_neg m3]
        by_cases m4 : mode = 4
        · rw [if_pos m4, if_pos m4]
          exact decide_eq_decide.2 (by omega)
        · rw [if_neg m4, if_neg m4]
theorem cmpI_shift (a x y : Int) : cmpI (a + x) (a + y) = cmpI x y := by
  unfold cmpI
  simp only [Int.add_lt_add_iff_left]
theorem pl_false (n : Nat) (p : Int) : ∃ lx le, D.pl ⟨false, n, p⟩ = ⟨false, lx, le⟩ := by
  by_cases h0 : n = 0
  · exact ⟨0, 0, D.pl_zero (d := ⟨false, n, p⟩) h0⟩
  · exact ⟨_, _, D.pl_pos (d := ⟨false, n, p⟩) h0⟩
theorem pl_again (n : Nat) (p : Int) : D.pl (D.pl ⟨false, n, p⟩) = D.pl ⟨false, n, p⟩ := by
  by_cases h0 : n = 0
  · rw [D.pl_zero (d := ⟨false, n, p⟩) h0]
    exact D.pl_zero (d := ⟨false, 0, 0⟩) rfl
  · rw [D.pl_pos (d := ⟨false, n, p⟩) h0]
    exact pl_eval false 0 _ (by simp) (tz_blen h0).2.2 (by simp)
theorem twice_vl {dx : Nat} {de : Int} (h : -40000 ≤ de) : (⟨false, dx, de + 1⟩ : D).vl = 2 * (⟨false, dx, de⟩ : D).vl := by
  unfold D.vl D.sz
  simp only
  rw [show (de + 1 + 40000).toNat = (de + 40000).toNat + 1 by omega, Int.pow_succ]
  generalize (2 : Int) ^ (de + 40000).toNat = T
  rw [Int.mul_comm T 2, Int.mul_left_comm]
/-- what is nearest, by exact numbers. -/
theorem near_is {A T q : Nat} (hT : 0 < T) (hq : A / T = q) (hr : A % T ≠ 0) : cmpI (2 * (A : Int)) ((q + (q + 1)) * T : Nat) = cmpI ((2 * (A % T) : Nat) : Int) (T : Int) := by
  have h1 := Nat.div_add_mod A T
  rw [hq] at h1
  have e1 : 2 * (A : Int) = ((2 * (T * q) : Nat) : Int) + ((2 * (A % T) : Nat) : Int) := by omega
  have e2 : (((q + (q + 1)) * T : Nat) : Int) = ((2 * (T * q) : Nat) : Int) + (T : Int) := by
    have : (q + (q + 1)) * T = 2 * (T * q) + T := by rw [show q + (q + 1) = 2 * q + 1 by omega, Nat.add_mul, Nat.one_mul, Nat.mul_assoc, Nat.mul_comm q T]
    rw [this]
    omega
  rw [e1, e2, cmpI_shift]
end Go.Proofs.YtkjbejdeejpdoaaDoor
