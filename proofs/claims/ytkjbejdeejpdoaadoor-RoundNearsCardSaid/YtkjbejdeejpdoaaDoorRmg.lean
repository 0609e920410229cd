
/-
  Plain mathematics of the neighbours of a number, as exact numbers: nothing of a program.
-/
import Derived.Test.YtkjbejdeejpdoaaDoorRme
namespace Go.Proofs.YtkjbejdeejpdoaaDoor
open Go.RowKit
set_option linter.unusedVariables false

section
variable {B P W M E H : Nat} {low : Int}
/-- what a number that may be rounded, and isn't 0, is like. -/
theorem mayR_bd {a : D} (hm : mayR a = true) (h0 : a.x ≠ 0) : a.may = true ∧ a.pl.may = true ∧ (blen a.x : Int) - 1 + a.e ≤ 8000 ∧ -8192 ≤ a.e := by
  unfold mayR at hm
  rw [decide_eq_false h0] at hm
  simp only [Bool.false_or, Bool.and_eq_true, decide_eq_true_eq] at hm
  obtain ⟨h1, h2, h3⟩ := hm
  exact ⟨h1, h2, h3, ((D.may_iff a).1 h1).2.1⟩
theorem plc_bd (hf : Fm B P W M E H low) {a : D} (hm : mayR a = true) (h0 : a.x ≠ 0) : low ≤ plcS P low a ∧ plcS P low a ≤ 8000 := by
  obtain ⟨b1, b2, b3, b4, b5, b6, b7, b8, b9, b10, b11, b12, b13, b14, b15⟩ := hf.bd
  obtain ⟨h1, h2, h3, h4⟩ := mayR_bd hm h0
  unfold plcS
  omega
/-- the multiple of its place below a size, as bits have it. -/
theorem flq (hf : Fm B P W M E H low) (A : Nat) : A / 2 ^ (cellP P low A + 40000).toNat < 2 * M ∧ A / 2 ^ (cellP P low A + 40000).toNat % 2 = flC P M low A % 2 := by
  obtain ⟨b1, b2, b3, b4, b5, b6, b7, b8, b9, b10, b11, b12, b13, b14, b15⟩ := hf.bd
  constructor
  · obtain ⟨p, hp⟩ : ∃ p, cellP P low A = p := ⟨_, rfl⟩
    have hp1 : low ≤ p := by rw [← hp]; unfold cellP; omega
    have hp2 : (blen A : Int) - 40000 - (P : Int) ≤ p := by rw [← hp]; unfold cellP; omega
    obtain ⟨s, hs⟩ : ∃ s, (p + 40000).toNat = s := ⟨_, rfl⟩
    rw [hp, hs, Nat.div_lt_iff_lt_mul (Nat.two_pow_pos _), ← hf.pP, show 2 * 2 ^ (P - 1) = 2 ^ P by rw [Nat.mul_comm, ← Nat.pow_succ]; congr 1; omega, ← Nat.pow_add]
    exact (blen_le A (P + s)).1 (by omega)
  · unfold flC
    have h : M = 2 * (M / 2) := hf.hlf.2
    rw [h, Nat.mul_left_comm]
    omega
theorem nb_may {n : Nat} {p : Int} (hn : n ≤ 18446744073709551615) (h1 : -2000 ≤ p) (h2 : p ≤ 8000) : (D.pl ⟨false, n, p⟩).may = true ∧ (D.pl ⟨false, n, p⟩).plain ∧ -2000 ≤ (D.pl ⟨false, n, p⟩).e ∧ (D.pl ⟨false, n, p⟩).vl = (n * 2 ^ (p + 40000).toNat : Nat) ∧ blen (D.pl ⟨false, n, p⟩).x ≤ 64 ∧ (D.pl ⟨false, n, p⟩).neg = false ∧ (D.pl ⟨false, n, p⟩).e ≤ 8064 := by
  have hb : blen n ≤ 64 := blen_lt_pow (by omega)
  have hv : (D.pl ⟨false, n, p⟩).vl = (n * 2 ^ (p + 40000).toNat : Nat) := by
    rw [D.pl_vl (by show -40000 ≤ p; omega)]
    unfold D.vl D.sz
    simp
  have hl := D.pl_low (d := ⟨false, n, p⟩) (m := -2000) (by show -2000 ≤ p; omega) (by omega)
  by_cases h0 : n = 0
  · subst h0
    rw [D.pl_zero (d := ⟨false, 0, p⟩) rfl] at hv hl ⊢
    exact ⟨may_small (by show 0 < 18446744073709551616; omega) (by show (-8192 : Int) ≤ 0; omega) (by show (0 : Int) ≤ 8192; omega), D.plain_zero, hl, hv, by show blen 0 ≤ 64; rw [blen_zero]; omega, rfl, by show (0 : Int) ≤ 8064; omega⟩
  · have h5 := blen_div_tz h0
    have hp := D.pl_plain ⟨false, n, p⟩
    rw [D.pl_pos (d := ⟨false, n, p⟩) h0] at hv hl hp ⊢
    refine ⟨(D.may_iff _).2 ⟨?_, ?_, ?_⟩, hp, hl, hv, ?_, rfl, ?_⟩
    · show blen (n / 2 ^ tz n) ≤ 4096; omega
    · show -8192 ≤ p + (tz n : Int); omega
    · show p + (tz n : Int) ≤ 8192; omega
    · show blen (n / 2 ^ tz n) ≤ 64; omega
    · show p + (tz n : Int) ≤ 8064; omega
/-- the size of the plain form. -/
theorem size_vl {a : D} (he : -40000 ≤ a.e) : (⟨false, a.pl.x, a.pl.e⟩ : D).vl = (a.vl.natAbs : Int) := by
  rw [← pl_vl_abs he, D.vl_natAbs]
  unfold D.vl D.sz
  simp
theorem size_floor {a : D} (hm : a.pl.may = true) (he : -40000 ≤ a.e) {p : Int} (hp : plB p = true) :
    floorS ⟨false, a.pl.x, a.pl.e⟩ p = (D.pl ⟨false, a.vl.natAbs / 2 ^ (p + 40000).toNat, p⟩, decide (a.vl.natAbs % 2 ^ (p + 40000).toNat ≠ 0), 0) := by
  have h := floor_units (a := ⟨false, a.pl.x, a.pl.e⟩) (by rw [D.may_iff] at hm ⊢; exact hm) hp
  rw [size_vl he, Int.natAbs_natCast] at h
  exact h
/-- the neighbour above. -/
theorem nb_next {n : Nat} {p : Int} (hn : n < 18446744073709551615) (h1 : -2000 ≤ p) (h2 : p ≤ 8000) : addS (D.pl ⟨false, n, p⟩) ⟨false, 1, p⟩ = (D.pl ⟨false, n + 1, p⟩, 0) := by
  obtain ⟨m1, m2, m3, m4, m5, m6, m7⟩ := nb_may (n := n) (by omega) h1 h2
  obtain ⟨k1, k2, k3, k4, k5, k6, k7⟩ := nb_may (n := n + 1) (by omega) h1 h2
  have mo : (⟨false, 1, p⟩ : D).may = true := may_small (by show 1 < 18446744073709551616; omega) (by show -8192 ≤ p; omega) (by show p ≤ 8192; omega)
  rw [addS_ok m1 mo]
  have h := D.add_of (a := D.pl ⟨false, n, p⟩) (b := ⟨false, 1, p⟩) (c := D.pl ⟨false, n + 1, p⟩) (by omega) (by show -40000 ≤ p; omega) (by omega) k2 (by
    rw [k4, m4]
    unfold D.vl D.sz
    simp only [Bool.false_eq_true, if_false]
    rw [Nat.add_mul, Int.natCast_add, Nat.one_mul, two_cast, Int.natCast_one, Int.one_mul])
  rw [← h, tld_ok k1]
/-- both together. -/
theorem nb_both {n m : Nat} {p : Int} (hn : n + m ≤ 18446744073709551615) (h1 : -2000 ≤ p) (h2 : p ≤ 8000) : addS (D.pl ⟨false, n, p⟩) (D.pl ⟨false, m, p⟩) = (D.pl ⟨false, n + m, p⟩, 0) := by
  obtain ⟨m1, m2, m3, m4, m5, m6, m7⟩ := nb_may (n := n) (by omega) h1 h2
  obtain ⟨j1, j2, j3, j4, j5, j6, j7⟩ := nb_may (n := m) (by omega) h1 h2
  obtain ⟨k1, k2, k3, k4, k5, k6, k7⟩ := nb_may (n := n + m) (by omega) h1 h2
  rw [addS_ok m1 j1]
  have h := D.add_of (a := D.pl ⟨false, n, p⟩) (b := D.pl ⟨false, m, p⟩) (c := D.pl ⟨false, n + m, p⟩) (by omega) (by omega) (by omega) k2 (by
    rw [k4, m4, j4, Nat.add_mul, Int.natCast_add])
  rw [← h, tld_ok k1]
/-- is a multiple an even one? -/
theorem nb_even (n : Nat) (p : Int) : (decide ((D.pl ⟨false, n, p⟩).x = 0) || decide (p < (D.pl ⟨false, n, p⟩).e)) = decide (n % 2 = 0) := by
  by_cases h0 : n = 0
  · subst h0
    rw [D.pl_zero (d := ⟨false, 0, p⟩) rfl]
    rfl
  · obtain ⟨t1, t2, t3⟩ := tz_blen h0
    rw [D.pl_pos (d := ⟨false, n, p⟩) h0]
    rw [show decide ((⟨false, n / 2 ^ tz n, p + (tz n : Int)⟩ : D).x = 0) = false from decide_eq_false (by show n / 2 ^ tz n ≠ 0; omega), Bool.false_or]
    refine decide_eq_decide.2 ?_
    show p < p + (tz n : Int) ↔ _
    constructor
    · intro h
      rw [t2, show tz n = (tz n - 1) + 1 by omega, Nat.pow_succ, Nat.mul_comm _ 2, Nat.mul_assoc]
      exact Nat.mul_mod_right _ _
    · intro h
      rcases Nat.eq_zero_or_pos (tz n) with h1 | h1
      · rw [h1] at t3
        simp at t3
        omega
      · omega
/-- CHOSEN as the mode has it. -/
theorem nb_up (hf : Fm B P W M E H low) (mode : Int) (neg : Bool) (A : Nat) :
    (A / 2 ^ (cellP P low A + 40000).toNat + if upB mode neg (flC P M low A) (A - valU M low (flC P M low A)) (wid M low (flC P M low A)) then 1 else 0) * 2 ^ (cellP P low A + 40000).toNat = valU M low (rC P M low mode neg A) := by
  obtain ⟨h1, h2⟩ := flC_spec hf A
  unfold rC
  split
  · rw [valU_step hf, h1, h2, Nat.add_mul, Nat.one_mul]
  · rw [Nat.add_zero, Nat.add_zero, h1]
end
end Go.Proofs.YtkjbejdeejpdoaaDoor
