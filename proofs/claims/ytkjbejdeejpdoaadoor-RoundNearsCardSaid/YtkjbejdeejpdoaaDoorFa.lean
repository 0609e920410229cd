
/-
  The walks of format's small functions.
-/
import Derived.Test.YtkjbejdeejpdoaaDoorFmath
namespace Go.Proofs.YtkjbejdeejpdoaaDoor
open Go.RowKit
set_option linter.unusedVariables false

theorem wrap64_nat (n : Nat) (h : n < 18446744073709551616) : IntKind.u64.wrap ((n : Nat) : Int) = (n : Int) := by
  rw [IntKind.wrap_u64]; omega
theorem fbit_as (k m : Nat) (hk : k ≤ 63) (hm : 2 ^ k = m) (n : Int) (hn : n = (k : Int)) (w : World) :
    Calls Tryd.prog 49 #[.int .i64 n] w fun e w' => e = .returned (.int .u64 (m : Int)) ∧ w = w' := by
  have HM := Lib.hid hm
  subst hn
  clear hm
  go_enter Tryd.func49, Tryd.ntmps49
  go_wp2
  go_ret
  refine ⟨ret_int ?_, rfl⟩
  have h1 : 2 ^ k ≤ 2 ^ 63 := Nat.pow_le_pow_right (by omega) hk
  rw [← two_cast, wrap64_nat _ (by omega), HM.out]
theorem fbit_64 (n : Int) (hn : n = 64) (w : World) :
    Calls Tryd.prog 49 #[.int .i64 n] w fun e w' => e = .returned (.int .u64 0) ∧ w = w' := by
  subst hn
  go_enter Tryd.func49, Tryd.ntmps49
  go_wp2
  go_ret
  exact ⟨rfl, rfl⟩
theorem fones_as (k m : Nat) (hk : k ≤ 64) (hm : 2 ^ k = m + 1) (n : Int) (hn : n = (k : Int)) (w : World) :
    Calls Tryd.prog 84 #[.int .i64 n] w fun e w' => e = .returned (.int .u64 (m : Int)) ∧ w = w' := by
  by_cases h : k = 64
  · subst h
    obtain rfl : m = 18446744073709551615 := by omega
    have HB := Lib.hid (fbit_64 n hn w)
    clear hm hn
    go_enter Tryd.func84, Tryd.ntmps84
    go_wp2_with (go_at_call 49; refine (HB.out).mono ?_; rintro e w' ⟨rfl, rfl⟩)
    go_ret
    exact ⟨rfl, rfl⟩
  · have HB := Lib.hid (fbit_as k (m + 1) (by omega) hm n hn w)
    have h1 : 2 ^ k ≤ 2 ^ 63 := Nat.pow_le_pow_right (by omega) (by omega)
    have h2 : m ≤ 9223372036854775807 := by omega
    clear hm hn h1
    go_enter Tryd.func84, Tryd.ntmps84
    go_wp2_with (go_at_call 49; refine (HB.out).mono ?_; rintro e w' ⟨rfl, rfl⟩)
    go_ret
    exact ⟨ret_int (by omega), rfl⟩
theorem and_mod (b k m : Nat) (hb : b < 18446744073709551616) (hk : k ≤ 64) (hm : 2 ^ k = m + 1) : bits BinOp.and IntKind.u64 (b : Int) (m : Int) = ((b % 2 ^ k : Nat) : Int) := by
  have h1 : 2 ^ k ≤ 2 ^ 64 := Nat.pow_le_pow_right (by omega) hk
  rw [and_u64 b m hb (by omega), and_ones b k m hm]
theorem fraction_as {B P W M E H : Nat} {low : Int} (hf : Fm B P W M E H low) (b r : Nat) (hb : b < 18446744073709551616) (hr : b % M = r) (w : World) :
    Calls Tryd.prog 47 #[.agg #[.int .i64 (B : Int), .int .i64 (P : Int), .int .i64 (W : Int)], .int .u64 (b : Int)] w fun e w' => e = .returned (.int .u64 (r : Int)) ∧ Below w.heap.size w w' := by
  obtain ⟨b1, b2, b3, b4, b5, b6, b7, b8, b9, b10, b11, b12, b13, b14, b15⟩ := hf.bd
  have HP : Hid (2 ^ (P - 1) = (M - 1) + 1) := by have := hf.pP; exact Lib.hid (by omega)
  have HR := Lib.hid (hf.pP ▸ hr)
  have HF := Lib.hid (fun W => fones_as (P - 1) (M - 1) (by omega) HP.out ((P : Int) - 1) (by omega) W)
  clear hr hf b1
  go_enter Tryd.func47, Tryd.ntmps47
  go_wp2_with (go_at_call 84; refine (HF.out _).mono ?_; rintro e w' ⟨rfl, rfl⟩)
  go_ret
  exact ⟨ret_int (by rw [and_mod b (P - 1) (M - 1) hb (by omega) HP.out, HR.out]), below_lit _ _⟩
theorem exponent_as {B P W M E H : Nat} {low : Int} (hf : Fm B P W M E H low) (b r : Nat) (hb : b < 18446744073709551616) (hr : b / M % (E + 1) = r) (w : World) :
    Calls Tryd.prog 50 #[.agg #[.int .i64 (B : Int), .int .i64 (P : Int), .int .i64 (W : Int)], .int .u64 (b : Int)] w fun e w' => e = .returned (.int .u64 (r : Int)) ∧ Below w.heap.size w w' := by
  obtain ⟨b1, b2, b3, b4, b5, b6, b7, b8, b9, b10, b11, b12, b13, b14, b15⟩ := hf.bd
  have HP := Lib.hid hf.pP
  have HW := Lib.hid hf.pW
  have HR := Lib.hid hr
  have HF := Lib.hid (fun (V : World) => fones_as W E (by omega) HW.out (W : Int) rfl V)
  have q1 : IntKind.i64.wrap ((P : Int) - 1) = (P : Int) - 1 := IntWalk.i64_in _ (by omega)
  have q2 : IntKind.u64.wrap ((P : Int) - 1) = (P : Int) - 1 := by rw [IntKind.wrap_u64]; omega
  have q3 : 0 ≤ (P : Int) - 1 := by omega
  have q4 : ((P : Int) - 1).toNat = P - 1 := by omega
  clear hr hf b1
  go_enter Tryd.func50, Tryd.ntmps50
  go_wp2_with fail
  go_quiet ((go_at_call 84; exact quiet_at (HF.out _) ⟨_, rfl⟩))
  go_wp2_with fail
  go_ret
  refine ⟨ret_int ?_, below_drewN (below_lit _ _) _⟩
  have h1 : b / M ≤ b := Nat.div_le_self _ _
  rw [show ((b : Int) / 2 ^ (P - 1)) = ((b / M : Nat) : Int) by rw [← HP.out]; simp, and_mod (b / M) W E (by omega) (by omega) HW.out, HW.out, HR.out]
theorem or_top (k r m : Nat) (hk : k ≤ 63) (hm : 2 ^ k = m) (hr : r < m) : bits BinOp.or IntKind.u64 (m : Int) (r : Int) = ((m + r : Nat) : Int) := by
  have h1 : 2 ^ k ≤ 2 ^ 63 := Nat.pow_le_pow_right (by omega) hk
  rw [or_u64 m r (by omega) (by omega), ← hm, or_above' k r (by omega)]
/-- with its sign. -/
def sgn (H : Nat) (neg : Bool) (r : Nat) : Nat := if neg then H + r else r
theorem signed_as {B P W M E H : Nat} {low : Int} (hf : Fm B P W M E H low) (neg : Bool) (r v : Nat) (hr : r < H) (hv : sgn H neg r = v) (w : World) :
    Calls Tryd.prog 62 #[.agg #[.int .i64 (B : Int), .int .i64 (P : Int), .int .i64 (W : Int)], .bool neg, .int .u64 (r : Int)] w fun e w' => e = .returned (.int .u64 (v : Int)) ∧ Below w.heap.size w w' := by
  obtain ⟨b1, b2, b3, b4, b5, b6, b7, b8, b9, b10, b11, b12, b13, b14, b15⟩ := hf.bd
  have HP := Lib.hid hf.pB
  have HV := Lib.hid hv
  have HF := Lib.hid (fun (V : World) => fbit_as (B - 1) H (by omega) HP.out ((B : Int) - 1) (by omega) V)
  clear hv hf b1
  cases neg
  · go_enter Tryd.func62, Tryd.ntmps62
    go_wp2
    go_ret
    exact ⟨ret_int (by rw [← HV.out]; rfl), below_lit _ _⟩
  · go_enter Tryd.func62, Tryd.ntmps62
    go_wp2_with (go_at_call 49; refine (HF.out _).mono ?_; rintro e w' ⟨rfl, rfl⟩)
    go_ret
    exact ⟨ret_int (by rw [or_top (B - 1) r H (by omega) HP.out hr, ← HV.out]; rfl), below_lit _ _⟩
theorem bias_as {B P W M E H : Nat} {low : Int} (hf : Fm B P W M E H low) (q : Int) (hq : 2 - (P : Int) - low = q) (w : World) :
    Calls Tryd.prog 67 #[.agg #[.int .i64 (B : Int), .int .i64 (P : Int), .int .i64 (W : Int)]] w fun e w' => e = .returned (.int .i64 q) ∧ Below w.heap.size w w' := by
  obtain ⟨b1, b2, b3, b4, b5, b6, b7, b8, b9, b10, b11, b12, b13, b14, b15⟩ := hf.bd
  obtain ⟨k, hk⟩ : ∃ k : Nat, 2 ^ (W - 1) = k + 1 ∧ (k : Int) = q := ⟨(2 - (P : Int) - low).toNat, by
    have := hf.pBias
    have h2 := Nat.two_pow_pos (W - 1)
    omega, by
    have := hf.pBias
    have h2 := Nat.two_pow_pos (W - 1)
    omega⟩
  have HK := Lib.hid hk.1
  obtain rfl := hk.2
  have hk3 : k ≤ 2000 := by
    have h1 : 2 ^ (W - 1) ≤ 2 ^ 10 := Nat.pow_le_pow_right (by omega) (by omega)
    omega
  have HF := Lib.hid (fun (V : World) => fones_as (W - 1) k (by omega) HK.out ((W : Int) - 1) (by omega) V)
  clear hq hf b1 hk
  go_enter Tryd.func67, Tryd.ntmps67
  go_wp2_with (go_at_call 84; refine (HF.out _).mono ?_; rintro e w' ⟨rfl, rfl⟩)
  go_ret
  exact ⟨rfl, below_lit _ _⟩
theorem quietBit_as {B P W M E H : Nat} {low : Int} (hf : Fm B P W M E H low) (v : Nat) (hv : M / 2 = v) (w : World) :
    Calls Tryd.prog 85 #[.agg #[.int .i64 (B : Int), .int .i64 (P : Int), .int .i64 (W : Int)]] w fun e w' => e = .returned (.int .u64 (v : Int)) ∧ Below w.heap.size w w' := by
  obtain ⟨b1, b2, b3, b4, b5, b6, b7, b8, b9, b10, b11, b12, b13, b14, b15⟩ := hf.bd
  have HF := Lib.hid (fun (V : World) => fbit_as (P - 2) v (by omega) (by rw [hf.pQ, hv]) ((P : Int) - 2) (by omega) V)
  clear hv hf b1
  go_enter Tryd.func85, Tryd.ntmps85
  go_wp2_with (go_at_call 49; refine (HF.out _).mono ?_; rintro e w' ⟨rfl, rfl⟩)
  go_ret
  exact ⟨rfl, below_lit _ _⟩
theorem fmay_as {B P W M E H : Nat} {low : Int} (hf : Fm B P W M E H low) (b : Nat) (hb : b < 18446744073709551616) (v : Bool) (hv : decide (b < 2 * H) = v) (w : World) :
    Calls Tryd.prog 46 #[.agg #[.int .i64 (B : Int), .int .i64 (P : Int), .int .i64 (W : Int)], .int .u64 (b : Int)] w fun e w' => e = .returned (.bool v) ∧ Below w.heap.size w w' := by
  obtain ⟨b1, b2, b3, b4, b5, b6, b7, b8, b9, b10, b11, b12, b13, b14, b15⟩ := hf.bd
  have HP : Hid (2 ^ B = (2 * H - 1) + 1) := by have := hf.pB2; exact Lib.hid (by omega)
  have HV := Lib.hid hv
  have HF := Lib.hid (fun (V : World) => fones_as B (2 * H - 1) (by omega) HP.out (B : Int) rfl V)
  clear hv hf b1
  go_enter Tryd.func46, Tryd.ntmps46
  go_wp2_with (go_at_call 84; refine (HF.out _).mono ?_; rintro e w' ⟨rfl, rfl⟩)
  go_ret
  refine ⟨ret_bool ?_, below_lit _ _⟩
  rw [and_mod b B (2 * H - 1) hb (by omega) HP.out, ← HV.out, HP.out, Bool.eq_iff_iff]
  simp only [beq_iff_eq, decide_eq_true_eq]
  constructor
  · intro h
    have h1 : b % (2 * H - 1 + 1) < 2 * H - 1 + 1 := Nat.mod_lt _ (by omega)
    omega
  · intro h
    rw [Nat.mod_eq_of_lt (by omega)]
theorem and_bit_ne (b k m : Nat) (hb : b < 18446744073709551616) (hk : k ≤ 63) (hm : 2 ^ k = m) : (bits BinOp.and IntKind.u64 (b : Int) (m : Int) != 0) = decide (b / m % 2 = 1) := by
  have h1 : 2 ^ k ≤ 2 ^ 63 := Nat.pow_le_pow_right (by omega) hk
  have h0 := Nat.two_pow_pos k
  rw [and_u64 b m hb (by omega), ← hm, and_one_bit, Bool.eq_iff_iff]
  simp only [bne_iff_ne, decide_eq_true_eq]
  have : b / 2 ^ k % 2 < 2 := Nat.mod_lt _ (by omega)
  constructor
  · intro h
    rcases Nat.lt_or_ge (b / 2 ^ k % 2) 1 with h2 | h2
    · have h3 : b / 2 ^ k % 2 = 0 := by omega
      rw [h3, Nat.zero_mul] at h
      exact (h rfl).elim
    · omega
  · intro h
    rw [h, Nat.one_mul]
    omega
theorem fneg_as {B P W M E H : Nat} {low : Int} (hf : Fm B P W M E H low) (b : Nat) (hb : b < 18446744073709551616) (v : Bool) (hv : decide (b / H % 2 = 1) = v) (w : World) :
    Calls Tryd.prog 20 #[.agg #[.int .i64 (B : Int), .int .i64 (P : Int), .int .i64 (W : Int)], .int .u64 (b : Int)] w fun e w' => e = .returned (.bool v) ∧ Below w.heap.size w w' := by
  obtain ⟨b1, b2, b3, b4, b5, b6, b7, b8, b9, b10, b11, b12, b13, b14, b15⟩ := hf.bd
  have HP := Lib.hid hf.pB
  have HV := Lib.hid hv
  have HF := Lib.hid (fun (V : World) => fbit_as (B - 1) H (by omega) HP.out ((B : Int) - 1) (by omega) V)
  clear hv hf b1
  go_enter Tryd.func20, Tryd.ntmps20
  go_wp2_with (go_at_call 49; refine (HF.out _).mono ?_; rintro e w' ⟨rfl, rfl⟩)
  go_ret
  exact ⟨ret_bool (by rw [and_bit_ne b (B - 1) H hb (by omega) HP.out, HV.out]), below_lit _ _⟩
theorem nought_as {B P W M E H : Nat} {low : Int} (hf : Fm B P W M E H low) (neg : Bool) (v : Nat) (hv : sgn H neg 0 = v) (w : World) :
    Calls Tryd.prog 24 #[.agg #[.int .i64 (B : Int), .int .i64 (P : Int), .int .i64 (W : Int)], .bool neg] w fun e w' => e = .returned (.int .u64 (v : Int)) ∧ Below w.heap.size w w' := by
  obtain ⟨b1, b2, b3, b4, b5, b6, b7, b8, b9, b10, b11, b12, b13, b14, b15⟩ := hf.bd
  have HF := Lib.hid (fun (V : World) => signed_as hf neg 0 v (by omega) hv V)
  clear hv hf b1
  go_enter Tryd.func24, Tryd.ntmps24
  go_wp2_with fail
  refine (HF.out _).mono ?_
  rintro e w' ⟨rfl, b⟩
  go_wp2_with fail
  go_ret
  exact ⟨rfl, Below.step (below_lit _ _) b⟩
end Go.Proofs.YtkjbejdeejpdoaaDoor
