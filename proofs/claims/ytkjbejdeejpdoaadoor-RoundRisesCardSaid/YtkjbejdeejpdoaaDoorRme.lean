
/-
  What the laws of layer 4 make of rounding: order, the other sign, half a place, twice: nothing of a program.
-/
import Derived.Test.YtkjbejdeejpdoaaDoorRmd
namespace Go.Proofs.YtkjbejdeejpdoaaDoor
open Go.RowKit
set_option linter.unusedVariables false

/-- what stands for infinite, in units. -/
def kBIG : Nat := 45000
theorem kBIG_eq : kBIG = 45000 := rfl
def BIG : Nat := 2 ^ kBIG
section
variable {B P W M E H : Nat} {low : Int}
theorem ME_lt (hf : Fm B P W M E H low) : 0 < M * E ∧ M * E + M = H := by
  obtain ⟨e1, e2⟩ := hf.hlf
  have hb := hf.bd
  exact ⟨Nat.mul_pos (by omega) (by omega), by rw [← e1, Nat.mul_add, Nat.mul_one]⟩
theorem big_ok (hf : Fm B P W M E H low) : valU M low (M * E) ≤ BIG := by
  obtain ⟨b1, b2, b3, b4, b5, b6, b7, b8, b9, b10, b11, b12, b13, b14, b15⟩ := hf.bd
  have h := (valU_make hf (E - 1) M (by omega) (.inr (Nat.le_refl _))).1
  have e : (E - 1) * M + M = M * E := by rw [show M * E = (E - 1 + 1) * M by rw [Nat.mul_comm]; congr 1; omega, Nat.add_mul, Nat.one_mul]
  rw [e] at h
  have h2 : valU M low (M * E) = 2 ^ (P - 1 + (low + ((E - 1 : Nat) : Int) + 40000).toNat) := by rw [h, Nat.pow_add, hf.pP]
  rw [h2]
  unfold BIG
  exact Nat.pow_le_pow_right (by omega) (by rw [kBIG_eq]; omega)
theorem big_abs {a : D} (h : (blen a.x : Int) + a.e ≤ 5000) (he : -40000 ≤ a.e) : a.vl.natAbs ≤ BIG := by
  rw [D.vl_natAbs]
  have h1 := (blen_le a.x (blen a.x)).1 (Nat.le_refl _)
  have h2 : a.x * 2 ^ (a.e + 40000).toNat ≤ 2 ^ blen a.x * 2 ^ (a.e + 40000).toNat := Nat.mul_le_mul_right _ (Nat.le_of_lt h1)
  rw [← Nat.pow_add] at h2
  refine Nat.le_trans h2 ?_
  unfold BIG
  exact Nat.pow_le_pow_right (by omega) (by rw [kBIG_eq]; omega)
theorem inf_vl (neg : Bool) : (⟨neg, 1, 5000⟩ : D).vl = if neg then -(BIG : Int) else (BIG : Int) := by
  have e : ((5000 : Int) + 40000).toNat = kBIG := rfl
  have h : (⟨neg, 1, 5000⟩ : D).vl = (if neg then -((1 : Nat) : Int) else ((1 : Nat) : Int)) * 2 ^ kBIG := by rw [← e]; rfl
  rw [h]
  unfold BIG
  rw [two_cast]
  generalize (2 : Int) ^ kBIG = T
  cases neg
  · rw [if_neg (by decide), if_neg (by decide)]
    exact Int.one_mul _
  · rw [if_pos rfl, if_pos rfl, Int.neg_mul]
    exact congrArg _ (Int.one_mul _)
theorem vl_sign {a : D} (h0 : a.x ≠ 0) : decide (a.vl < 0) = a.neg := by
  have := D.vl_neg (d := a)
  cases h : a.neg
  · exact decide_eq_false (fun h1 => by have := (this.1 h1).1; rw [h] at this; cases this)
  · exact decide_eq_true (this.2 ⟨h, h0⟩)
theorem rndC_zero (hf : Fm B P W M E H low) (mode : Int) (neg : Bool) : rndC P M E low mode neg 0 = 0 := by
  have h := rndC_val hf mode neg 0 (ME_lt hf).1
  rw [valU_zero hf] at h
  exact h
/-- what is told, as a number. -/
theorem round_vl (hf : Fm B P W M E H low) {mode : Int} (hmode : 0 ≤ mode ∧ mode ≤ 4) {a : D} (hm : mayR a = true) : ∃ (s : Bool) (k : Nat), k ≤ M * E ∧ (roundS P M E H low mode a false).1 = sgn H s k ∧ (roundS P M E H low mode a false).2.2 = 0 ∧
    svl M E low BIG s k = rndZ P M E low BIG mode a.vl := by
  by_cases h0 : a.x = 0
  · refine ⟨false, 0, Nat.zero_le _, by rw [roundS_zero hmode hm h0], by rw [roundS_zero hmode hm h0], ?_⟩
    rw [D.vl_zero.2 h0]
    unfold rndZ
    show _ = svl M E low BIG (decide ((0 : Int) < 0)) (rndC P M E low mode (decide ((0 : Int) < 0)) 0)
    rw [rndC_zero hf]
    rfl
  · obtain ⟨r1, r2, r3⟩ := roundS_bits (P := P) (M := M) (E := E) (H := H) (low := low) hmode hm h0 false
    refine ⟨a.neg, _, capC_le M E mode a.neg _, r1, r2, ?_⟩
    unfold rndZ
    rw [vl_sign h0]
    rfl
/-- A GREATER NUMBER IS NEVER ROUNDED TO A LESSER ONE. -/
theorem cmp_rises (hf : Fm B P W M E H low) (mode : Int) (z z' : Int) : (cmpI z z' < 0 → ¬ 0 < cmpI (rndZ P M E low BIG mode z) (rndZ P M E low BIG mode z')) ∧
    (0 < cmpI z z' → ¬ cmpI (rndZ P M E low BIG mode z) (rndZ P M E low BIG mode z') < 0) ∧ (cmpI z z' = 0 → cmpI (rndZ P M E low BIG mode z) (rndZ P M E low BIG mode z') = 0) := by
  have hB := big_ok hf
  have k1 := cmpI_cases z z'
  have k2 := cmpI_cases (rndZ P M E low BIG mode z) (rndZ P M E low BIG mode z')
  refine ⟨fun h => ?_, fun h => ?_, fun h => ?_⟩
  · have := rndZ_mono hf hB mode (show z ≤ z' by omega)
    omega
  · have := rndZ_mono hf hB mode (show z' ≤ z by omega)
    omega
  · have e : z = z' := by omega
    rw [e]
    have := cmpI_cases (rndZ P M E low BIG mode z') (rndZ P M E low BIG mode z')
    omega
theorem cmp_down (hf : Fm B P W M E H low) {z : Int} (hz : z.natAbs ≤ BIG) : cmpI (rndZ P M E low BIG 2 z) z ≤ 0 := by
  have := rndZ_down (E := E) hf hz
  have := cmpI_cases (rndZ P M E low BIG 2 z) z
  omega
theorem cmp_up (hf : Fm B P W M E H low) {z : Int} (hz : z.natAbs ≤ BIG) : 0 ≤ cmpI (rndZ P M E low BIG 3 z) z := by
  have := rndZ_up (E := E) hf hz
  have := cmpI_cases (rndZ P M E low BIG 3 z) z
  omega
theorem cmp_zero (hf : Fm B P W M E H low) (z : Int) : (z < 0 → 0 ≤ cmpI (rndZ P M E low BIG 1 z) z) ∧ (¬ z < 0 → cmpI (rndZ P M E low BIG 1 z) z ≤ 0) := by
  have h := rndZ_zero (E := E) hf (BIG := BIG) z
  have := cmpI_cases (rndZ P M E low BIG 1 z) z
  exact ⟨fun h1 => by have := h.1 h1; omega, fun h1 => by have := h.2 h1; omega⟩
/-- bits of both signs. -/
theorem sgn_xor (hf : Fm B P W M E H low) (neg : Bool) (k : Nat) (hk : k < H) : sgn H neg k ^^^ sgn H (!neg) k = H := by
  have key : (H + k) ^^^ k = H := by
    rw [← hf.pB] at hk ⊢
    rw [← or_above' (B - 1) k hk]
    apply Nat.eq_of_testBit_eq
    intro i
    rw [Nat.testBit_xor, Nat.testBit_or, Nat.testBit_two_pow]
    by_cases e : B - 1 = i
    · subst e
      rw [Nat.testBit_lt_two_pow hk]
      simp
    · simp [e]
  unfold sgn
  cases neg
  · simp only [Bool.false_eq_true, if_false, Bool.not_false, if_true]
    rw [Nat.xor_comm]
    exact key
  · simp only [if_true, Bool.not_true, Bool.false_eq_true, if_false]
    exact key
/-- A NUMBER OF THE OTHER SIGN. -/
theorem round_turns (hf : Fm B P W M E H low) {mode : Int} (hmode : 0 ≤ mode ∧ mode ≤ 4) {a : D} (hm : mayR a = true) (hm' : mayR a.turn = true) (h0 : a.x ≠ 0) :
    (roundS P M E H low mode a false).1 ^^^ (roundS P M E H low (othM mode) a.turn false).1 = H ∧ (roundS P M E H low mode a false).2.1 = (roundS P M E H low (othM mode) a.turn false).2.1 ∧
    (roundS P M E H low mode a false).2.2 = 0 ∧ (roundS P M E H low (othM mode) a.turn false).2.2 = 0 ∧
    ((roundS P M E H low mode a false).2.1 = 0 ∨ (roundS P M E H low mode a false).2.1 = 1 ∨ (roundS P M E H low mode a false).2.1 = 3 ∨ (roundS P M E H low mode a false).2.1 = 5) := by
  have hmode' : 0 ≤ othM mode ∧ othM mode ≤ 4 := by unfold othM; split <;> (try split) <;> omega
  obtain ⟨r1, r2, r3⟩ := roundS_bits (P := P) (M := M) (E := E) (H := H) (low := low) hmode hm h0 false
  obtain ⟨s1, s2, s3⟩ := roundS_bits (P := P) (M := M) (E := E) (H := H) (low := low) hmode' hm' (a := a.turn) h0 false
  have hv : a.turn.vl.natAbs = a.vl.natAbs := by rw [D.turn_vl, Int.natAbs_neg]
  obtain ⟨t1, t2⟩ := rndC_turn P M E low mode a.neg a.vl.natAbs
  rw [hv] at s1 s3
  rw [show a.turn.neg = !a.neg from rfl] at s1 s3
  rw [t1] at s1
  rw [t2] at s3
  have hk := capC_le M E mode a.neg (rC P M low mode a.neg a.vl.natAbs)
  have hME := ME_lt hf
  have hM := hf.bd
  refine ⟨?_, by rw [r3, s3], r2, s2, ?_⟩
  · rw [r1, s1]
    exact sgn_xor hf a.neg _ (by unfold rndC; omega)
  · rw [r3]
    unfold flgS
    split
    · split
      · exact .inl rfl
      · split
        · exact .inr (.inr (.inl rfl))
        · exact .inr (.inl rfl)
    · exact .inr (.inr (.inr rfl))
end
end Go.Proofs.YtkjbejdeejpdoaaDoor
