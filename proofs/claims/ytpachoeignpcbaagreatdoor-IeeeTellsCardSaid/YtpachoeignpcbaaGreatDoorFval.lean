
/-
  Plain mathematics of formats: bits and their numbers.
-/
import Derived.Test.YtpachoeignpcbaaGreatDoorFA
import Derived.Test.YtpachoeignpcbaaGreatDoorFR
namespace Go.Proofs.YtpachoeignpcbaaGreatDoor
open Go.RowKit
set_option linter.unusedVariables false

section
variable {B P W M E H : Nat} {low : Int}
/-- bits by fields. -/
theorem fields (hf : Fm B P W M E H low) (b : Nat) (hb : b < H) : b / M % (E + 1) = b / M ∧ b / H % 2 = 0 ∧ b = b / M * M + b % M ∧ b / M < E + 1 ∧ b % M < M := by
  obtain ⟨e1, e2⟩ := hf.hlf
  have hM : 0 < M := by have := hf.bd; omega
  have h1 : b / M < E + 1 := by
    rw [Nat.div_lt_iff_lt_mul hM, Nat.mul_comm, e1]; exact hb
  refine ⟨Nat.mod_eq_of_lt h1, by rw [Nat.div_eq_of_lt hb], ?_, h1, Nat.mod_lt _ hM⟩
  rw [Nat.mul_comm]; exact (Nat.div_add_mod b M).symm
theorem blen_lt_pow {n k : Nat} (h : n < 2 ^ k) : blen n ≤ k := (blen_le n k).2 h
theorem blen_ge_pow {n k : Nat} (h : 2 ^ k ≤ n) : k < blen n := by
  rcases Nat.lt_or_ge k (blen n) with h1 | h1
  · exact h1
  · have := (blen_le n k).1 h1; omega
theorem valN_lt (hf : Fm B P W M E H low) (b : Nat) : valN M E b < 2 * M := by
  have hM : 0 < M := by have := hf.bd; omega
  have := Nat.mod_lt b hM
  unfold valN
  split <;> omega
theorem valP_bd (hf : Fm B P W M E H low) (b : Nat) : -1074 ≤ valP M E low b ∧ valP M E low b ≤ 2100 := by
  obtain ⟨b1, b2, b3, b4, b5, b6, b7, b8, b9, b10, b11, b12, b13, b14, b15⟩ := hf.bd
  have hx : b / M % (E + 1) < E + 1 := Nat.mod_lt _ (by omega)
  unfold valP
  split <;> omega
/-- the number of bits may be taken, as it stands and plain. -/
theorem val_may (hf : Fm B P W M E H low) (b : Nat) (s : Bool) : D.may ⟨s, valN M E b, valP M E low b⟩ = true ∧ D.may (D.pl ⟨s, valN M E b, valP M E low b⟩) = true := by
  obtain ⟨b1, b2, b3, b4, b5, b6, b7, b8, b9, b10, b11, b12, b13, b14, b15⟩ := hf.bd
  have h1 := valN_lt hf b
  obtain ⟨h2, h3⟩ := valP_bd hf b
  have h4 : blen (valN M E b) ≤ 64 := blen_lt_pow (by omega)
  refine ⟨(D.may_iff _).2 ⟨Nat.le_trans h4 (by omega), by show -8192 ≤ valP M E low b; omega, by show valP M E low b ≤ 8192; omega⟩, ?_⟩
  rw [D.may_iff]
  by_cases h0 : valN M E b = 0
  · rw [D.pl_zero (d := ⟨s, valN M E b, valP M E low b⟩) h0]
    show blen 0 ≤ 4096 ∧ (-8192 : Int) ≤ 0 ∧ (0 : Int) ≤ 8192
    rw [blen_zero]; omega
  · rw [D.pl_pos (d := ⟨s, valN M E b, valP M E low b⟩) h0]
    have h5 := blen_div_tz h0
    show blen (valN M E b / 2 ^ tz (valN M E b)) ≤ 4096 ∧ -8192 ≤ valP M E low b + (tz (valN M E b) : Int) ∧ valP M E low b + (tz (valN M E b) : Int) ≤ 8192
    omega
/-- NUMBERS COME BACK. -/
theorem put_val (hf : Fm B P W M E H low) (b : Nat) (hb : b < 2 * H) (hx : b / M % (E + 1) ≠ E) (h0 : valN M E b ≠ 0) :
    putS P M E H low (D.pl ⟨decide (b / H % 2 = 1), valN M E b, valP M E low b⟩) = (b, 0) := by
  obtain ⟨b1, b2, b3, b4, b5, b6, b7, b8, b9, b10, b11, b12, b13, b14, b15⟩ := hf.bd
  obtain ⟨p1, p2⟩ := bits_parts hf b
  rw [Nat.mod_eq_of_lt hb] at p1
  have hm := (val_may hf b (decide (b / H % 2 = 1))).2
  obtain ⟨s, hs⟩ : ∃ s, decide (b / H % 2 = 1) = s := ⟨_, rfl⟩
  have hsg : sgn H s (b / M % (E + 1) * M + b % M) = b := by
    have h2 : b / H % 2 < 2 := Nat.mod_lt _ (by omega)
    have hc : b = sgn H s (b / M % (E + 1) * M + b % M) := by
      rw [← hs]
      unfold sgn
      rcases Nat.lt_or_ge (b / H % 2) 1 with h | h
      · have h3 : b / H % 2 = 0 := by omega
        rw [h3, Nat.zero_mul, Nat.zero_add] at p1
        rw [h3, if_neg (by decide)]
        exact p1
      · have h3 : b / H % 2 = 1 := by omega
        rw [h3, Nat.one_mul] at p1
        rw [h3, if_pos (by decide)]
        exact p1
    exact hc.symm
  rw [hs] at hm ⊢
  have hx2 : b / M % (E + 1) < E + 1 := Nat.mod_lt _ (by omega)
  have hr2 : b % M < M := Nat.mod_lt _ (by omega)
  have hpl := D.pl_pos (d := ⟨s, valN M E b, valP M E low b⟩) h0
  have hlen := blen_div_tz h0
  have hdec := (tz_blen h0).2.1
  have hodd := (tz_blen h0).2.2
  simp only at hpl
  generalize hy : valN M E b / 2 ^ tz (valN M E b) = y at *
  generalize hz : tz (valN M E b) = z at *
  have hplpl : D.pl ⟨s, y, valP M E low b + (z : Int)⟩ = ⟨s, y, valP M E low b + (z : Int)⟩ := pl_eval s 0 y (by simp) hodd (by simp)
  have hy0 : y ≠ 0 := by omega
  rw [hpl] at hm ⊢
  unfold putS
  rw [hm, if_pos rfl]
  simp only
  rw [if_neg hy0, hplpl]
  have hplc : plcS P low ⟨s, y, valP M E low b + (z : Int)⟩ = valP M E low b := by
    unfold plcS
    simp only
    unfold valN at hlen
    unfold valP
    by_cases c : b / M % (E + 1) = 0
    · rw [if_pos c] at hlen ⊢
      have : blen (b % M) ≤ P - 1 := blen_lt_pow (by rw [hf.pP]; exact hr2)
      omega
    · rw [if_neg c] at hlen ⊢
      have h3 : blen (M + b % M) ≤ P := blen_lt_pow (by rw [show P = P - 1 + 1 by omega, Nat.pow_succ, hf.pP]; omega)
      have h4 : P - 1 < blen (M + b % M) := blen_ge_pow (by rw [hf.pP]; omega)
      omega
  rw [hplc]
  simp only
  rw [if_neg (by
    unfold valP
    split <;> omega)]
  rw [show (valP M E low b + (z : Int) - valP M E low b).toNat = z by omega, Nat.mul_comm y, ← hdec]
  have key : (valP M E low b - low).toNat * M + valN M E b = b / M % (E + 1) * M + b % M := by
    unfold valN valP
    by_cases c : b / M % (E + 1) = 0
    · rw [if_pos c, if_pos c, c, Int.sub_self]
      simp
    · rw [if_neg c, if_neg c]
      generalize b / M % (E + 1) = x at *
      rw [show (low + (x : Int) - 1 - low).toNat = x - 1 by omega]
      have : (x - 1) * M + M = x * M := by rw [show x * M = (x - 1 + 1) * M by congr 1; omega, Nat.add_mul, Nat.one_mul]
      omega
  rw [key, hsg]
/-- the size of bits, in units of 2^-40000. -/
def valV (M E : Nat) (low : Int) (b : Nat) : Nat := valN M E b * 2 ^ (valP M E low b + 40000).toNat
theorem finite_lt (hf : Fm B P W M E H low) (b : Nat) (hb : b < H) (hx : b / M % (E + 1) ≠ E) : b < M * E := by
  obtain ⟨h1, h2, h3, h4, h5⟩ := fields hf b hb
  rw [h1] at hx
  have h6 : b / M * M + M ≤ E * M := by
    have : (b / M + 1) * M ≤ E * M := Nat.mul_le_mul_right _ (by omega)
    rw [Nat.add_mul, Nat.one_mul] at this
    exact this
  rw [Nat.mul_comm M E]
  omega
theorem lt_finite (hf : Fm B P W M E H low) (b : Nat) (hb : b < M * E) : b < H ∧ b / M % (E + 1) ≠ E := by
  obtain ⟨e1, e2⟩ := hf.hlf
  have e3 : M * E + M = H := by rw [← e1, Nat.mul_add, Nat.mul_one]
  have hM : 0 < M := by have := hf.bd; omega
  have h1 : b < H := by omega
  refine ⟨h1, ?_⟩
  rw [(fields hf b h1).1]
  have : b / M < E := by rw [Nat.div_lt_iff_lt_mul hM, Nat.mul_comm]; exact hb
  omega
/-- FROM A NUMBER TO THE NEXT ONE. -/
theorem val_step (hf : Fm B P W M E H low) (b : Nat) (hb : b + 1 < M * E) :
    valV M E low (b + 1) = valV M E low b + 2 ^ (low + (max (b / M) 1 : Nat) - 1 + 40000).toNat := by
  obtain ⟨b1, b2, b3, b4, b5, b6, b7, b8, b9, b10, b11, b12, b13, b14, b15⟩ := hf.bd
  have hM : 0 < M := by omega
  obtain ⟨a1, a2⟩ := lt_finite hf b (by omega)
  obtain ⟨c1, c2⟩ := lt_finite hf (b + 1) hb
  obtain ⟨f1, _, f3, f4, f5⟩ := fields hf b a1
  obtain ⟨g1, _, g3, g4, g5⟩ := fields hf (b + 1) c1
  unfold valV valN valP
  rw [f1] at a2 ⊢
  rw [g1] at c2 ⊢
  by_cases c : b % M + 1 = M
  · have d1 : b + 1 = (b / M + 1) * M := by rw [Nat.add_mul, Nat.one_mul]; omega
    have d2 : (b + 1) / M = b / M + 1 := by rw [d1, Nat.mul_div_cancel _ hM]
    have d3 : (b + 1) % M = 0 := by rw [d1, Nat.mul_mod_left]
    rw [d2, d3]
    have d4 : b % M = M - 1 := by omega
    rw [d4]
    generalize b / M = x at *
    rw [if_neg (by omega), if_neg (by omega)]
    by_cases x0 : x = 0
    · subst x0
      rw [if_pos rfl, if_pos rfl, show (low + ((0 + 1 : Nat) : Int) - 1 + 40000).toNat = (low + 40000).toNat by omega, show (low + ((max 0 1 : Nat) : Int) - 1 + 40000).toNat = (low + 40000).toNat by simp]
      have : M + 0 = (M - 1) + 1 := by omega
      rw [this, Nat.add_mul, Nat.one_mul]
    · rw [if_neg x0, if_neg x0, show max x 1 = x by omega, show (low + ((x + 1 : Nat) : Int) - 1 + 40000).toNat = (low + (x : Int) - 1 + 40000).toNat + 1 by omega, Nat.pow_succ]
      generalize 2 ^ (low + (x : Int) - 1 + 40000).toNat = T
      rw [show M + (M - 1) = 2 * M - 1 by omega, Nat.add_zero]
      have : (2 * M - 1) * T + T = 2 * M * T := by rw [show 2 * M * T = (2 * M - 1 + 1) * T by congr 1; omega, Nat.add_mul, Nat.one_mul]
      rw [this]
      ac_rfl
  · have d1 : b + 1 = b / M * M + (b % M + 1) := by omega
    have d2 : (b + 1) / M = b / M := by rw [d1, Nat.add_comm, Nat.add_mul_div_right _ _ hM, Nat.div_eq_of_lt (by omega), Nat.zero_add]
    have d3 : (b + 1) % M = b % M + 1 := by rw [d1, Nat.add_comm, Nat.add_mul_mod_self_right, Nat.mod_eq_of_lt (by omega)]
    rw [d2, d3]
    generalize b / M = x at *
    by_cases x0 : x = 0
    · subst x0
      rw [if_pos rfl, if_pos rfl, if_pos rfl, show (low + ((max 0 1 : Nat) : Int) - 1 + 40000).toNat = (low + 40000).toNat by simp, Nat.add_mul, Nat.one_mul]
    · rw [if_neg x0, if_neg x0, if_neg x0, show max x 1 = x by omega, ← Nat.add_assoc, Nat.add_mul (M + b % M), Nat.one_mul]
theorem val_mono (hf : Fm B P W M E H low) (a : Nat) : ∀ k : Nat, a + k + 1 < M * E → valV M E low a < valV M E low (a + k + 1)
  | 0, h => by
    rw [Nat.add_zero, val_step hf a h]
    have := Nat.two_pow_pos (low + (max (a / M) 1 : Nat) - 1 + 40000).toNat
    omega
  | k + 1, h => by
    have h1 := val_mono hf a k (by omega)
    have h2 := val_step hf (a + (k + 1)) h
    have := Nat.two_pow_pos (low + (max ((a + (k + 1)) / M) 1 : Nat) - 1 + 40000).toNat
    rw [show a + k + 1 = a + (k + 1) by omega] at h1
    omega
theorem val_vl (hf : Fm B P W M E H low) (b : Nat) (hb : b < H) : (D.pl ⟨decide (b / H % 2 = 1), valN M E b, valP M E low b⟩).vl = (valV M E low b : Int) := by
  obtain ⟨h1, h2⟩ := valP_bd hf b
  rw [D.pl_vl (by show -40000 ≤ valP M E low b; omega), (fields hf b hb).2.1]
  unfold D.vl D.sz valV
  simp
theorem cmp_val (hf : Fm B P W M E H low) (a b : Nat) (ha : a < M * E) (hb : b < M * E) :
    (decide (cmpI (valV M E low a : Int) (valV M E low b : Int) < 0) = decide (a < b)) ∧ ((cmpI (valV M E low a : Int) (valV M E low b : Int) == 0) = (a == b)) := by
  unfold cmpI
  rcases Nat.lt_trichotomy a b with h | h | h
  · have := val_mono hf a (b - a - 1) (by omega)
    rw [show a + (b - a - 1) + 1 = b by omega] at this
    rw [if_pos (by omega)]
    exact ⟨by rw [decide_eq_true h]; rfl, by rw [show (a == b) = false by simp; omega]; rfl⟩
  · subst h
    simp
  · have := val_mono hf b (a - b - 1) (by omega)
    rw [show b + (a - b - 1) + 1 = a by omega] at this
    rw [if_neg (by omega), if_pos (by omega)]
    exact ⟨by rw [show decide (a < b) = false from decide_eq_false (by omega)]; rfl, by rw [show (a == b) = false by simp; omega]; rfl⟩
end
end Go.Proofs.YtpachoeignpcbaaGreatDoor
