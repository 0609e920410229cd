
/-
  Plain mathematics of rounding: exact numbers and their bits.
-/
import Derived.Test.YtkjbejdeejpdoaaDoorRmb
namespace Go.Proofs.YtkjbejdeejpdoaaDoor
open Go.RowKit
set_option linter.unusedVariables false

section
variable {B P W M E H : Nat} {low : Int}
theorem vl_blen {a : D} (h0 : a.x ≠ 0) (he : -40000 ≤ a.e) : (blen a.vl.natAbs : Int) = (blen a.x : Int) + a.e + 40000 := by
  rw [D.vl_natAbs, blen_shift h0]
  omega
theorem plc_cell {a : D} (h0 : a.x ≠ 0) (he : -40000 ≤ a.e) (P : Nat) (low : Int) : plcS P low a = cellP P low a.vl.natAbs := by
  unfold plcS cellP
  rw [vl_blen h0 he]
  congr 1
  omega
theorem pl_vl_abs {a : D} (he : -40000 ≤ a.e) : a.pl.vl.natAbs = a.vl.natAbs := by rw [D.pl_vl he]
/-- a number of one sign and size. -/
theorem vl_of {a b : D} (hs : a.neg = b.neg) (h : a.vl.natAbs = b.vl.natAbs) : a.vl = b.vl := by
  have key : ∀ d : D, d.vl = if d.neg then -(d.vl.natAbs : Int) else (d.vl.natAbs : Int) := fun d => by
    rw [D.vl_natAbs]
    unfold D.vl D.sz
    cases d.neg
    · simp
    · simp [Int.neg_mul]
  rw [key a, key b, hs, h]
/-- towards 0 to a place, in units. -/
theorem floor_units {a : D} (hm : a.may = true) {p : Int} (hp : plB p = true) :
    floorS a p = (D.pl ⟨a.neg, a.vl.natAbs / 2 ^ (p + 40000).toNat, p⟩, decide (a.vl.natAbs % 2 ^ (p + 40000).toNat ≠ 0), 0) := by
  obtain ⟨m1, m2, m3⟩ := (D.may_iff a).1 hm
  have hpb := (plB_iff p).1 hp
  obtain ⟨an, ax, ae⟩ := a
  simp only at m1 m2 m3
  unfold floorS
  rw [hm, if_pos rfl, hp, if_pos rfl, D.vl_natAbs]
  simp only
  by_cases h : p ≤ ae
  · rw [if_pos h]
    obtain ⟨k, hk⟩ := Int.eq_ofNat_of_zero_le (show 0 ≤ ae - p by omega)
    have e1 : (ae + 40000).toNat = k + (p + 40000).toNat := by omega
    rw [e1, Nat.pow_add, ← Nat.mul_assoc, Nat.mul_div_cancel _ (Nat.two_pow_pos _), Nat.mul_mod_left]
    congr 1
    by_cases h0 : ax = 0
    · subst h0
      rw [Nat.zero_mul, D.pl_zero rfl, D.pl_zero rfl]
    · refine D.unique (D.pl_plain _) (D.pl_plain _) (D.pl_low (m := -40000) (by show -40000 ≤ ae; omega) (by omega)) (D.pl_low (m := -40000) (by show -40000 ≤ p; omega) (by omega)) ?_
      rw [D.pl_vl (by show -40000 ≤ ae; omega), D.pl_vl (by show -40000 ≤ p; omega)]
      refine vl_of rfl ?_
      rw [D.vl_natAbs, D.vl_natAbs]
      simp only
      rw [e1, Nat.pow_add, Nat.mul_assoc]
  · rw [if_neg h]
    obtain ⟨k, hk⟩ := Int.eq_ofNat_of_zero_le (show 0 ≤ p - ae by omega)
    have e1 : (p + 40000).toNat = k + (ae + 40000).toNat := by omega
    rw [hk, Int.toNat_natCast, e1, Nat.pow_add, Nat.mul_div_mul_right _ _ (Nat.two_pow_pos _), Nat.mul_mod_mul_right]
    congr 1
    congr 1
    refine decide_eq_decide.2 ?_
    have := Nat.two_pow_pos (ae + 40000).toNat
    constructor
    · intro h1 h2
      rcases Nat.mul_eq_zero.1 h2 with h3 | h3
      · exact h1 h3
      · omega
    · intro h1 h2
      rw [h2, Nat.zero_mul] at h1
      exact h1 rfl
/-- THE BITS of a number that has some. -/
theorem put_mul (hf : Fm B P W M E H low) {d : D} {c : Nat} (hd : d.plain) (he : -40000 ≤ d.e) (h0 : d.x ≠ 0) (hc : c < M * E) (hv : d.vl.natAbs = valU M low c) : putS P M E H low d = (sgn H d.neg c, 0) := by
  obtain ⟨b1, b2, b3, b4, b5, b6, b7, b8, b9, b10, b11, b12, b13, b14, b15⟩ := hf.bd
  obtain ⟨a1, a2⟩ := lt_finite hf c hc
  obtain ⟨f1, f2, f3, f4, f5⟩ := fields hf c a1
  obtain ⟨b, hb⟩ : ∃ b, sgn H d.neg c = b := ⟨_, rfl⟩
  obtain ⟨e1, e2⟩ := hf.hlf
  have hM : 0 < M := by omega
  have hbs : b % M = c % M ∧ b / M % (E + 1) = c / M % (E + 1) ∧ decide (b / H % 2 = 1) = d.neg ∧ b < 2 * H := by
    rw [← hb]
    unfold sgn
    cases d.neg
    · rw [if_neg (by decide)]
      exact ⟨rfl, rfl, by rw [f2]; rfl, by omega⟩
    · rw [if_pos rfl]
      have g : H + c = c + M * (E + 1) := by omega
      refine ⟨by rw [g, Nat.add_mul_mod_self_left], by rw [g, Nat.add_mul_div_left _ _ hM, Nat.add_mod_right], ?_, by omega⟩
      rw [show (H + c) / H = 1 by rw [Nat.add_comm, Nat.add_div_right _ (by omega), Nat.div_eq_of_lt a1]]
      rfl
  obtain ⟨k1, k2, k3, k4⟩ := hbs
  have hN : valN M E b = valN M E c := by unfold valN; rw [k1, k2]
  have hPp : valP M E low b = valP M E low c := by unfold valP; rw [k2]
  have hV := valU_valV hf c a1
  have hNz : valN M E b ≠ 0 := by
    intro h
    rw [hN] at h
    unfold valV at hV
    rw [h, Nat.zero_mul] at hV
    rw [← hV, D.vl_natAbs] at hv
    rcases Nat.mul_eq_zero.1 hv with h1 | h1
    · exact h0 h1
    · have := Nat.two_pow_pos (d.e + 40000).toNat; omega
  have hput := put_val hf b k4 (by rw [k2]; exact a2) hNz
  obtain ⟨p1, p2⟩ := valP_bd hf b
  have hdd : d = D.pl ⟨decide (b / H % 2 = 1), valN M E b, valP M E low b⟩ := by
    refine D.unique hd (D.pl_plain _) he (D.pl_low (m := -40000) (by show -40000 ≤ valP M E low b; omega) (by omega)) ?_
    rw [D.pl_vl (by show -40000 ≤ valP M E low b; omega)]
    refine vl_of k3.symm ?_
    rw [hv, ← hV, D.vl_natAbs]
    simp only
    unfold valV
    rw [hN, hPp]
  rw [← hdd] at hput
  rw [hput, hb]
/-- a number beyond has none. -/
theorem put_none (hf : Fm B P W M E H low) {d : D} {c : Nat} (hm : d.may = true) (h0 : d.x ≠ 0) (hc : M * E ≤ c) (hv : d.vl.natAbs = valU M low c) : putS P M E H low d = (0, 10) := by
  obtain ⟨b1, b2, b3, b4, b5, b6, b7, b8, b9, b10, b11, b12, b13, b14, b15⟩ := hf.bd
  have hM : 0 < M := by omega
  have he : -40000 ≤ d.e := by have := ((D.may_iff d).1 hm).2.1; omega
  have hplc := plc_cell (P := P) (low := low) h0 he
  have h1 : E ≤ c / M := by rw [Nat.le_div_iff_mul_le hM, Nat.mul_comm]; exact hc
  have hw := (flC_spec hf (valU M low c)).2
  rw [fl_val hf c] at hw
  unfold wid at hw
  have h2 : low + (max (c / M) 1 : Nat) - 1 = cellP P low (valU M low c) := by
    have h3 : low ≤ cellP P low (valU M low c) := by unfold cellP; omega
    have h4 := (Nat.pow_right_inj (a := 2) (by omega)).1 hw
    have h5 : (max (c / M) 1 : Nat) = c / M := Nat.max_eq_left (by omega)
    rw [h5] at h4 ⊢
    omega
  unfold putS
  rw [hm, if_pos rfl, if_neg h0, if_pos]
  right
  rw [hplc, hv, ← h2, show max (c / M) 1 = c / M from Nat.max_eq_left (by omega)]
  omega
end
end Go.Proofs.YtkjbejdeejpdoaaDoor
