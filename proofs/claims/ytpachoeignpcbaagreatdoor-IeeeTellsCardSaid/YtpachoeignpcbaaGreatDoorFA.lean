/-
  The walks of format's small functions.
  The walks of format's functions over the small ones.
  The walks of format's Class and Of.
  The walks of format's Of.
  The walk of format's Value.
  The walk of format's Put.
-/
import Derived.Test.YtpachoeignpcbaaGreatDoorFmath
namespace Go.Proofs.YtpachoeignpcbaaGreatDoor
open Go.RowKit
set_option linter.unusedVariables false

theorem wrap64_nat (n : Nat) (h : n < 18446744073709551616) : IntKind.u64.wrap ((n : Nat) : Int) = (n : Int) := by
  rw [IntKind.wrap_u64]; omega
theorem fbit_as (k m : Nat) (hk : k ≤ 63) (hm : 2 ^ k = m) (n : Int) (hn : n = (k : Int)) (w : World) :
    Calls Tryz.prog 86 #[.int .i64 n] w fun e w' => e = .returned (.int .u64 (m : Int)) ∧ w = w' := by
  have HM := Lib.hid hm
  subst hn
  clear hm
  go_enter Tryz.func86, Tryz.ntmps86
  go_wp2
  go_ret
  refine ⟨ret_int ?_, rfl⟩
  have h1 : 2 ^ k ≤ 2 ^ 63 := Nat.pow_le_pow_right (by omega) hk
  rw [← two_cast, wrap64_nat _ (by omega), HM.out]
theorem fbit_64 (n : Int) (hn : n = 64) (w : World) :
    Calls Tryz.prog 86 #[.int .i64 n] w fun e w' => e = .returned (.int .u64 0) ∧ w = w' := by
  subst hn
  go_enter Tryz.func86, Tryz.ntmps86
  go_wp2
  go_ret
  exact ⟨rfl, rfl⟩
theorem fones_as (k m : Nat) (hk : k ≤ 64) (hm : 2 ^ k = m + 1) (n : Int) (hn : n = (k : Int)) (w : World) :
    Calls Tryz.prog 49 #[.int .i64 n] w fun e w' => e = .returned (.int .u64 (m : Int)) ∧ w = w' := by
  by_cases h : k = 64
  · subst h
    obtain rfl : m = 18446744073709551615 := by omega
    have HB := Lib.hid (fbit_64 n hn w)
    clear hm hn
    go_enter Tryz.func49, Tryz.ntmps49
    go_wp2_with (go_at_call 86; refine (HB.out).mono ?_; rintro e w' ⟨rfl, rfl⟩)
    go_ret
    exact ⟨rfl, rfl⟩
  · have HB := Lib.hid (fbit_as k (m + 1) (by omega) hm n hn w)
    have h1 : 2 ^ k ≤ 2 ^ 63 := Nat.pow_le_pow_right (by omega) (by omega)
    have h2 : m ≤ 9223372036854775807 := by omega
    clear hm hn h1
    go_enter Tryz.func49, Tryz.ntmps49
    go_wp2_with (go_at_call 86; refine (HB.out).mono ?_; rintro e w' ⟨rfl, rfl⟩)
    go_ret
    exact ⟨ret_int (by omega), rfl⟩
theorem and_mod (b k m : Nat) (hb : b < 18446744073709551616) (hk : k ≤ 64) (hm : 2 ^ k = m + 1) : bits BinOp.and IntKind.u64 (b : Int) (m : Int) = ((b % 2 ^ k : Nat) : Int) := by
  have h1 : 2 ^ k ≤ 2 ^ 64 := Nat.pow_le_pow_right (by omega) hk
  rw [and_u64 b m hb (by omega), and_ones b k m hm]
theorem fraction_as {B P W M E H : Nat} {low : Int} (hf : Fm B P W M E H low) (b r : Nat) (hb : b < 18446744073709551616) (hr : b % M = r) (w : World) :
    Calls Tryz.prog 76 #[.agg #[.int .i64 (B : Int), .int .i64 (P : Int), .int .i64 (W : Int)], .int .u64 (b : Int)] w fun e w' => e = .returned (.int .u64 (r : Int)) ∧ Below w.heap.size w w' := by
  obtain ⟨b1, b2, b3, b4, b5, b6, b7, b8, b9, b10, b11, b12, b13, b14, b15⟩ := hf.bd
  have HP : Hid (2 ^ (P - 1) = (M - 1) + 1) := by have := hf.pP; exact Lib.hid (by omega)
  have HR := Lib.hid (hf.pP ▸ hr)
  have HF := Lib.hid (fun W => fones_as (P - 1) (M - 1) (by omega) HP.out ((P : Int) - 1) (by omega) W)
  clear hr hf b1
  go_enter Tryz.func76, Tryz.ntmps76
  go_wp2_with (go_at_call 49; refine (HF.out _).mono ?_; rintro e w' ⟨rfl, rfl⟩)
  go_ret
  exact ⟨ret_int (by rw [and_mod b (P - 1) (M - 1) hb (by omega) HP.out, HR.out]), below_lit _ _⟩
theorem exponent_as {B P W M E H : Nat} {low : Int} (hf : Fm B P W M E H low) (b r : Nat) (hb : b < 18446744073709551616) (hr : b / M % (E + 1) = r) (w : World) :
    Calls Tryz.prog 77 #[.agg #[.int .i64 (B : Int), .int .i64 (P : Int), .int .i64 (W : Int)], .int .u64 (b : Int)] w fun e w' => e = .returned (.int .u64 (r : Int)) ∧ Below w.heap.size w w' := by
  obtain ⟨b1, b2, b3, b4, b5, b6, b7, b8, b9, b10, b11, b12, b13, b14, b15⟩ := hf.bd
  have HP := Lib.hid hf.pP
  have HW := Lib.hid hf.pW
  have HR := Lib.hid hr
  have HF := Lib.hid (fun (V : World) => fones_as W E (by omega) HW.out (W : Int) rfl V)
  have q1 : IntKind.i64.wrap ((P : Int) - 1) = (P : Int) - 1 := IntWalk.i64_in _ (by omega)
  have q2 : IntKind.u64.wrap ((P : Int) - 1) = (P : Int) - 1 := by rw [IntKind.wrap_u64]; omega
  have q3 : 0 ≤ (P : Int) - 1 := by omega
  have q4 : ((P : Int) - 1).toNat = P - 1 := by omega
  clear hr hf b1
  go_enter Tryz.func77, Tryz.ntmps77
  go_wp2_with fail
  go_quiet ((go_at_call 49; exact quiet_at (HF.out _) ⟨_, rfl⟩))
  go_wp2_with fail
  go_ret
  refine ⟨ret_int ?_, below_drewN (below_lit _ _) _⟩
  have h1 : b / M ≤ b := Nat.div_le_self _ _
  rw [show ((b : Int) / 2 ^ (P - 1)) = ((b / M : Nat) : Int) by rw [← HP.out]; simp, and_mod (b / M) W E (by omega) (by omega) HW.out, HW.out, HR.out]
theorem or_top (k r m : Nat) (hk : k ≤ 63) (hm : 2 ^ k = m) (hr : r < m) : bits BinOp.or IntKind.u64 (m : Int) (r : Int) = ((m + r : Nat) : Int) := by
  have h1 : 2 ^ k ≤ 2 ^ 63 := Nat.pow_le_pow_right (by omega) hk
  rw [or_u64 m r (by omega) (by omega), ← hm, or_above' k r (by omega)]
/-- with its sign. -/
def sgn (H : Nat) (neg : Bool) (r : Nat) : Nat := if neg then H + r else r
theorem signed_as {B P W M E H : Nat} {low : Int} (hf : Fm B P W M E H low) (neg : Bool) (r v : Nat) (hr : r < H) (hv : sgn H neg r = v) (w : World) :
    Calls Tryz.prog 74 #[.agg #[.int .i64 (B : Int), .int .i64 (P : Int), .int .i64 (W : Int)], .bool neg, .int .u64 (r : Int)] w fun e w' => e = .returned (.int .u64 (v : Int)) ∧ Below w.heap.size w w' := by
  obtain ⟨b1, b2, b3, b4, b5, b6, b7, b8, b9, b10, b11, b12, b13, b14, b15⟩ := hf.bd
  have HP := Lib.hid hf.pB
  have HV := Lib.hid hv
  have HF := Lib.hid (fun (V : World) => fbit_as (B - 1) H (by omega) HP.out ((B : Int) - 1) (by omega) V)
  clear hv hf b1
  cases neg
  · go_enter Tryz.func74, Tryz.ntmps74
    go_wp2
    go_ret
    exact ⟨ret_int (by rw [← HV.out]; rfl), below_lit _ _⟩
  · go_enter Tryz.func74, Tryz.ntmps74
    go_wp2_with (go_at_call 86; refine (HF.out _).mono ?_; rintro e w' ⟨rfl, rfl⟩)
    go_ret
    exact ⟨ret_int (by rw [or_top (B - 1) r H (by omega) HP.out hr, ← HV.out]; rfl), below_lit _ _⟩
theorem bias_as {B P W M E H : Nat} {low : Int} (hf : Fm B P W M E H low) (q : Int) (hq : 2 - (P : Int) - low = q) (w : World) :
    Calls Tryz.prog 115 #[.agg #[.int .i64 (B : Int), .int .i64 (P : Int), .int .i64 (W : Int)]] w fun e w' => e = .returned (.int .i64 q) ∧ Below w.heap.size w w' := by
  obtain ⟨b1, b2, b3, b4, b5, b6, b7, b8, b9, b10, b11, b12, b13, b14, b15⟩ := hf.bd
  obtain ⟨k, hk⟩ : ∃ k : Nat, 2 ^ (W - 1) = k + 1 ∧ (k : Int) = q := ⟨(2 - (P : Int) - low).toNat, by
    have := hf.pBias
    have h2 := Nat.two_pow_pos (W - 1)
    omega, by
    have := hf.pBias
    have h2 := Nat.two_pow_pos (W - 1)
    omega⟩
  have HK := Lib.hid hk.1
  obtain rfl := hk.2
  have hk3 : k ≤ 2000 := by
    have h1 : 2 ^ (W - 1) ≤ 2 ^ 10 := Nat.pow_le_pow_right (by omega) (by omega)
    omega
  have HF := Lib.hid (fun (V : World) => fones_as (W - 1) k (by omega) HK.out ((W : Int) - 1) (by omega) V)
  clear hq hf b1 hk
  go_enter Tryz.func115, Tryz.ntmps115
  go_wp2_with (go_at_call 49; refine (HF.out _).mono ?_; rintro e w' ⟨rfl, rfl⟩)
  go_ret
  exact ⟨rfl, below_lit _ _⟩
theorem quietBit_as {B P W M E H : Nat} {low : Int} (hf : Fm B P W M E H low) (v : Nat) (hv : M / 2 = v) (w : World) :
    Calls Tryz.prog 75 #[.agg #[.int .i64 (B : Int), .int .i64 (P : Int), .int .i64 (W : Int)]] w fun e w' => e = .returned (.int .u64 (v : Int)) ∧ Below w.heap.size w w' := by
  obtain ⟨b1, b2, b3, b4, b5, b6, b7, b8, b9, b10, b11, b12, b13, b14, b15⟩ := hf.bd
  have HF := Lib.hid (fun (V : World) => fbit_as (P - 2) v (by omega) (by rw [hf.pQ, hv]) ((P : Int) - 2) (by omega) V)
  clear hv hf b1
  go_enter Tryz.func75, Tryz.ntmps75
  go_wp2_with (go_at_call 86; refine (HF.out _).mono ?_; rintro e w' ⟨rfl, rfl⟩)
  go_ret
  exact ⟨rfl, below_lit _ _⟩
theorem fmay_as {B P W M E H : Nat} {low : Int} (hf : Fm B P W M E H low) (b : Nat) (hb : b < 18446744073709551616) (v : Bool) (hv : decide (b < 2 * H) = v) (w : World) :
    Calls Tryz.prog 22 #[.agg #[.int .i64 (B : Int), .int .i64 (P : Int), .int .i64 (W : Int)], .int .u64 (b : Int)] w fun e w' => e = .returned (.bool v) ∧ Below w.heap.size w w' := by
  obtain ⟨b1, b2, b3, b4, b5, b6, b7, b8, b9, b10, b11, b12, b13, b14, b15⟩ := hf.bd
  have HP : Hid (2 ^ B = (2 * H - 1) + 1) := by have := hf.pB2; exact Lib.hid (by omega)
  have HV := Lib.hid hv
  have HF := Lib.hid (fun (V : World) => fones_as B (2 * H - 1) (by omega) HP.out (B : Int) rfl V)
  clear hv hf b1
  go_enter Tryz.func22, Tryz.ntmps22
  go_wp2_with (go_at_call 49; refine (HF.out _).mono ?_; rintro e w' ⟨rfl, rfl⟩)
  go_ret
  refine ⟨ret_bool ?_, below_lit _ _⟩
  rw [and_mod b B (2 * H - 1) hb (by omega) HP.out, ← HV.out, HP.out, Bool.eq_iff_iff]
  simp only [beq_iff_eq, decide_eq_true_eq]
  constructor
  · intro h
    have h1 : b % (2 * H - 1 + 1) < 2 * H - 1 + 1 := Nat.mod_lt _ (by omega)
    omega
  · intro h
    rw [Nat.mod_eq_of_lt (by omega)]
theorem and_bit_ne (b k m : Nat) (hb : b < 18446744073709551616) (hk : k ≤ 63) (hm : 2 ^ k = m) : (bits BinOp.and IntKind.u64 (b : Int) (m : Int) != 0) = decide (b / m % 2 = 1) := by
  have h1 : 2 ^ k ≤ 2 ^ 63 := Nat.pow_le_pow_right (by omega) hk
  have h0 := Nat.two_pow_pos k
  rw [and_u64 b m hb (by omega), ← hm, and_one_bit, Bool.eq_iff_iff]
  simp only [bne_iff_ne, decide_eq_true_eq]
  have : b / 2 ^ k % 2 < 2 := Nat.mod_lt _ (by omega)
  constructor
  · intro h
    rcases Nat.lt_or_ge (b / 2 ^ k % 2) 1 with h2 | h2
    · have h3 : b / 2 ^ k % 2 = 0 := by omega
      rw [h3, Nat.zero_mul] at h
      exact (h rfl).elim
    · omega
  · intro h
    rw [h, Nat.one_mul]
    omega
theorem fneg_as {B P W M E H : Nat} {low : Int} (hf : Fm B P W M E H low) (b : Nat) (hb : b < 18446744073709551616) (v : Bool) (hv : decide (b / H % 2 = 1) = v) (w : World) :
    Calls Tryz.prog 47 #[.agg #[.int .i64 (B : Int), .int .i64 (P : Int), .int .i64 (W : Int)], .int .u64 (b : Int)] w fun e w' => e = .returned (.bool v) ∧ Below w.heap.size w w' := by
  obtain ⟨b1, b2, b3, b4, b5, b6, b7, b8, b9, b10, b11, b12, b13, b14, b15⟩ := hf.bd
  have HP := Lib.hid hf.pB
  have HV := Lib.hid hv
  have HF := Lib.hid (fun (V : World) => fbit_as (B - 1) H (by omega) HP.out ((B : Int) - 1) (by omega) V)
  clear hv hf b1
  go_enter Tryz.func47, Tryz.ntmps47
  go_wp2_with (go_at_call 86; refine (HF.out _).mono ?_; rintro e w' ⟨rfl, rfl⟩)
  go_ret
  exact ⟨ret_bool (by rw [and_bit_ne b (B - 1) H hb (by omega) HP.out, HV.out]), below_lit _ _⟩
theorem nought_as {B P W M E H : Nat} {low : Int} (hf : Fm B P W M E H low) (neg : Bool) (v : Nat) (hv : sgn H neg 0 = v) (w : World) :
    Calls Tryz.prog 40 #[.agg #[.int .i64 (B : Int), .int .i64 (P : Int), .int .i64 (W : Int)], .bool neg] w fun e w' => e = .returned (.int .u64 (v : Int)) ∧ Below w.heap.size w w' := by
  obtain ⟨b1, b2, b3, b4, b5, b6, b7, b8, b9, b10, b11, b12, b13, b14, b15⟩ := hf.bd
  have HF := Lib.hid (fun (V : World) => signed_as hf neg 0 v (by omega) hv V)
  clear hv hf b1
  go_enter Tryz.func40, Tryz.ntmps40
  go_wp2_with fail
  refine (HF.out _).mono ?_
  rintro e w' ⟨rfl, b⟩
  go_wp2_with fail
  go_ret
  exact ⟨rfl, Below.step (below_lit _ _) b⟩
end Go.Proofs.YtpachoeignpcbaaGreatDoor

namespace Go.Proofs.YtpachoeignpcbaaGreatDoor
open Go.RowKit
set_option linter.unusedVariables false

abbrev FB (w : World) (s : Nat) (t : TypeId) (a b c : Int) : Prop := Box w s t (.int .i64 a) (.int .i64 b) (.int .i64 c)
theorem fframe1 (w : World) (t : TypeId) (a b c : Int) : ∃ W, w.alloc (.cells #[.int .i64 a, .int .i64 b, .int .i64 c] t) = W ∧ FB W w.heap.size t a b c ∧ Below w.heap.size w W ∧ W.heap.size = w.heap.size + 1 :=
  ⟨_, rfl, Box.made w t (notU_int _) (notU_int _) (notU_int _), below_lit _ _, by simp⟩
theorem flow_as {B P W M E H : Nat} {low : Int} (hf : Fm B P W M E H low) (q : Int) (hq : low = q) (w : World) :
    Calls Tryz.prog 85 #[.agg #[.int .i64 (B : Int), .int .i64 (P : Int), .int .i64 (W : Int)]] w fun e w' => e = .returned (.int .i64 q) ∧ Below w.heap.size w w' := by
  obtain ⟨b1, b2, b3, b4, b5, b6, b7, b8, b9, b10, b11, b12, b13, b14, b15⟩ := hf.bd
  subst hq
  obtain ⟨i, hi⟩ : ∃ i : Int, 2 - (P : Int) - low = i := ⟨_, rfl⟩
  have HF := Lib.hid (fun (V : World) => bias_as hf i hi V)
  have q1 : IntKind.i64.wrap (2 - (P : Int)) = 2 - (P : Int) := IntWalk.i64_in _ (by omega)
  have q2 : IntKind.i64.wrap (2 - (P : Int) - i) = low := by rw [IntWalk.i64_in _ (by omega)]; omega
  clear hi hf b1
  go_enter Tryz.func85, Tryz.ntmps85
  go_wp2_with fail
  obtain ⟨V, hV, z0, BW, sW⟩ := fframe1 w 25 (B : Int) (P : Int) (W : Int)
  rw [hV]
  clear hV
  have kb : FB V.drew w.heap.size 25 (B : Int) (P : Int) (W : Int) := z0.on ((Below.refl _ _).drew)
  have HB := Lib.hid (Below.step BW ((Below.refl _ _).drew))
  clear z0 BW
  go_region_held3 (fun w' => w'.cell? ⟨w.heap.size, 0, none⟩ = some (.int .i64 (B : Int)) ∧ w'.cell? ⟨w.heap.size, 1, none⟩ = some (.int .i64 (P : Int)) ∧ w'.cell? ⟨w.heap.size, 2, none⟩ = some (.int .i64 (W : Int)))
    ((exact ⟨kb.cells.1, kb.cells.2.1, kb.cells.2.2.1⟩))
    (first
      | (go_at_call 115
         (with_reducible refine (HF.out _).mono ?_)
         rintro en w3 ⟨rfl, b⟩
         replace kb := kb.on b
         replace HB := Lib.hid (Below.step HB.out b)
         clear b))
  go_wp2_with fail
  go_ret
  exact ⟨rfl, HB.out⟩
theorem fones_b (k m : Nat) (hk : k ≤ 64) (hm : 2 ^ k = m + 1) (n : Int) (hn : n = (k : Int)) (w : World) :
    Calls Tryz.prog 49 #[.int .i64 n] w fun e w' => e = .returned (.int .u64 (m : Int)) ∧ Below w.heap.size w w' :=
  (fones_as k m hk hm n hn w).mono fun e w' ⟨h, hw⟩ => ⟨h, hw ▸ Below.refl _ _⟩
theorem highest_as {B P W M E H : Nat} {low : Int} (hf : Fm B P W M E H low) (q : Int) (hq : low + (E : Int) - 2 = q) (w : World) :
    Calls Tryz.prog 123 #[.agg #[.int .i64 (B : Int), .int .i64 (P : Int), .int .i64 (W : Int)]] w fun e w' => e = .returned (.int .i64 q) ∧ Below w.heap.size w w' := by
  obtain ⟨b1, b2, b3, b4, b5, b6, b7, b8, b9, b10, b11, b12, b13, b14, b15⟩ := hf.bd
  have HF := Lib.hid (fun (V : World) => flow_as hf low rfl V)
  have HO := Lib.hid (fun (V : World) => fones_b W E (by omega) hf.pW (W : Int) rfl V)
  have q0 : IntKind.i64.wrap (E : Int) = (E : Int) := IntWalk.i64_in _ (by omega)
  have q1 : IntKind.i64.wrap (low + (E : Int)) = low + (E : Int) := IntWalk.i64_in _ (by omega)
  have q2 : IntKind.i64.wrap (low + (E : Int) - 2) = q := by rw [IntWalk.i64_in _ (by omega)]; omega
  clear hq hf b1
  go_enter Tryz.func123, Tryz.ntmps123
  go_wp2_with fail
  obtain ⟨V, hV, z0, BW, sW⟩ := fframe1 w 25 (B : Int) (P : Int) (W : Int)
  rw [hV]
  clear hV
  have kb : FB V.drew w.heap.size 25 (B : Int) (P : Int) (W : Int) := z0.on ((Below.refl _ _).drew)
  have HB := Lib.hid (Below.step BW ((Below.refl _ _).drew))
  clear z0 BW
  go_region_held3 (fun w' => w'.cell? ⟨w.heap.size, 0, none⟩ = some (.int .i64 (B : Int)) ∧ w'.cell? ⟨w.heap.size, 1, none⟩ = some (.int .i64 (P : Int)) ∧ w'.cell? ⟨w.heap.size, 2, none⟩ = some (.int .i64 (W : Int)))
    ((exact ⟨kb.cells.1, kb.cells.2.1, kb.cells.2.2.1⟩))
    (first
      | (go_at_call 85
         (with_reducible refine (HF.out _).mono ?_)
         rintro en w3 ⟨rfl, b⟩
         replace kb := kb.on b
         replace HB := Lib.hid (Below.step HB.out b)
         clear b)
      | (go_at_call 49
         (with_reducible refine (HO.out _).mono ?_)
         rintro en w4 ⟨rfl, b⟩
         replace kb := kb.on b
         replace HB := Lib.hid (Below.step HB.out b)
         clear b))
  go_wp2_with fail
  go_ret
  exact ⟨rfl, HB.out⟩
theorem infinite_as {B P W M E H : Nat} {low : Int} (hf : Fm B P W M E H low) (neg : Bool) (v : Nat) (hv : sgn H neg (M * E) = v) (w : World) :
    Calls Tryz.prog 53 #[.agg #[.int .i64 (B : Int), .int .i64 (P : Int), .int .i64 (W : Int)], .bool neg] w fun e w' => e = .returned (.int .u64 (v : Int)) ∧ Below w.heap.size w w' := by
  obtain ⟨b1, b2, b3, b4, b5, b6, b7, b8, b9, b10, b11, b12, b13, b14, b15⟩ := hf.bd
  obtain ⟨e1, e2⟩ := hf.hlf
  have e3 : M * E + M = H := by rw [← e1, Nat.mul_add, Nat.mul_one]
  obtain ⟨r, hr⟩ : ∃ r, M * E = r := ⟨_, rfl⟩
  rw [hr] at hv e3
  have HF := Lib.hid (fun (V : World) => signed_as hf neg r v (by omega) hv V)
  have HO := Lib.hid (fun (V : World) => fones_b W E (by omega) hf.pW (W : Int) rfl V)
  have q1 : IntKind.i64.wrap ((P : Int) - 1) = (P : Int) - 1 := IntWalk.i64_in _ (by omega)
  have q2 : IntKind.u64.wrap ((P : Int) - 1) = (P : Int) - 1 := by rw [IntKind.wrap_u64]; omega
  have q3 : 0 ≤ (P : Int) - 1 := by omega
  have q4 : ((P : Int) - 1).toNat = P - 1 := by omega
  have q5 : IntKind.u64.wrap ((E : Int) * 2 ^ (P - 1)) = (r : Int) := by
    rw [← two_cast, hf.pP, ← Int.natCast_mul, Nat.mul_comm, hr]; exact wrap64_nat r (by omega)
  clear hv hf b1 e1 e2 e3 hr
  go_enter Tryz.func53, Tryz.ntmps53
  go_wp2_with fail
  obtain ⟨V, hV, z0, BW, sW⟩ := fframe1 w 25 (B : Int) (P : Int) (W : Int)
  rw [hV]
  clear hV
  have kb : FB V.drew w.heap.size 25 (B : Int) (P : Int) (W : Int) := z0.on ((Below.refl _ _).drew)
  have HB := Lib.hid (Below.step BW ((Below.refl _ _).drew))
  clear z0 BW
  go_region_held3 (fun w' => w'.cell? ⟨w.heap.size, 0, none⟩ = some (.int .i64 (B : Int)) ∧ w'.cell? ⟨w.heap.size, 1, none⟩ = some (.int .i64 (P : Int)) ∧ w'.cell? ⟨w.heap.size, 2, none⟩ = some (.int .i64 (W : Int)))
    ((exact ⟨kb.cells.1, kb.cells.2.1, kb.cells.2.2.1⟩))
    (first
      | (go_at_call 49
         (with_reducible refine (HO.out _).mono ?_)
         rintro en w3 ⟨rfl, b⟩
         replace kb := kb.on b
         replace HB := Lib.hid (Below.step HB.out b)
         clear b)
      | (go_at_call 74
         (with_reducible refine (HF.out _).mono ?_)
         rintro en w4 ⟨rfl, b⟩
         replace kb := kb.on b
         replace HB := Lib.hid (Below.step HB.out b)
         clear b))
  go_wp2_with fail
  go_ret
  exact ⟨rfl, HB.out⟩
theorem greatest_as {B P W M E H : Nat} {low : Int} (hf : Fm B P W M E H low) (neg : Bool) (v : Nat) (hv : sgn H neg (M * E) = v + 1) (w : World) :
    Calls Tryz.prog 125 #[.agg #[.int .i64 (B : Int), .int .i64 (P : Int), .int .i64 (W : Int)], .bool neg] w fun e w' => e = .returned (.int .u64 (v : Int)) ∧ Below w.heap.size w w' := by
  obtain ⟨b1, b2, b3, b4, b5, b6, b7, b8, b9, b10, b11, b12, b13, b14, b15⟩ := hf.bd
  have HF := Lib.hid (fun (V : World) => infinite_as hf neg (v + 1) hv V)
  have e3 : v + 1 < 18446744073709551616 := by
    obtain ⟨e1, e2⟩ := hf.hlf
    have e3 : M * E + M = H := by rw [← e1, Nat.mul_add, Nat.mul_one]
    rw [← hv]; unfold sgn
    cases neg <;> simp <;> omega
  clear hv hf b1
  go_enter Tryz.func125, Tryz.ntmps125
  go_wp2_with fail
  refine (HF.out _).mono ?_
  rintro e w' ⟨rfl, b⟩
  go_wp2_with fail
  go_ret
  exact ⟨ret_int (by omega), Below.step (below_lit _ _) b⟩
/-- quieted. -/
def qtS (M H b : Nat) : Nat := if b % (2 * H) / (M / 2) % 2 = 1 then b % (2 * H) else b % (2 * H) + M / 2
theorem quieted_as {B P W M E H : Nat} {low : Int} (hf : Fm B P W M E H low) (b v : Nat) (hb : b < 18446744073709551616) (hv : qtS M H b = v) (w : World) :
    Calls Tryz.prog 42 #[.agg #[.int .i64 (B : Int), .int .i64 (P : Int), .int .i64 (W : Int)], .int .u64 (b : Int)] w fun e w' => e = .returned (.int .u64 (v : Int)) ∧ Below w.heap.size w w' := by
  obtain ⟨b1, b2, b3, b4, b5, b6, b7, b8, b9, b10, b11, b12, b13, b14, b15⟩ := hf.bd
  have HP : Hid (2 ^ B = (2 * H - 1) + 1) := by have := hf.pB2; exact Lib.hid (by omega)
  have HV := Lib.hid hv
  obtain ⟨Q, hQ⟩ : ∃ Q, M / 2 = Q := ⟨_, rfl⟩
  have hQ2 : Q ≤ M := by omega
  have HQ := Lib.hid (hQ ▸ hf.pQ)
  have HF := Lib.hid (fun (V : World) => fones_b B (2 * H - 1) (by omega) HP.out (B : Int) rfl V)
  have HO := Lib.hid (fun (V : World) => quietBit_as hf Q hQ V)
  have HQ2 := Lib.hid hQ
  clear hv hf b1 hQ
  go_enter Tryz.func42, Tryz.ntmps42
  go_wp2_with fail
  obtain ⟨V, hV, z0, BW, sW⟩ := fframe1 w 25 (B : Int) (P : Int) (W : Int)
  rw [hV]
  clear hV
  have kb : FB V.drew w.heap.size 25 (B : Int) (P : Int) (W : Int) := z0.on ((Below.refl _ _).drew)
  have HB := Lib.hid (Below.step BW ((Below.refl _ _).drew))
  clear z0 BW
  go_region_held3 (fun w' => w'.cell? ⟨w.heap.size, 0, none⟩ = some (.int .i64 (B : Int)) ∧ w'.cell? ⟨w.heap.size, 1, none⟩ = some (.int .i64 (P : Int)) ∧ w'.cell? ⟨w.heap.size, 2, none⟩ = some (.int .i64 (W : Int)))
    ((exact ⟨kb.cells.1, kb.cells.2.1, kb.cells.2.2.1⟩))
    (first
      | (go_at_call 49
         (with_reducible refine (HF.out _).mono ?_)
         rintro en w3 ⟨rfl, b⟩
         replace kb := kb.on b
         replace HB := Lib.hid (Below.step HB.out b)
         clear b)
      | (go_at_call 75
         (with_reducible refine (HO.out _).mono ?_)
         rintro en w4 ⟨rfl, b⟩
         replace kb := kb.on b
         replace HB := Lib.hid (Below.step HB.out b)
         clear b))
  go_wp2_with fail
  go_ret
  refine ⟨ret_int ?_, HB.out⟩
  have h1 : b % 2 ^ B ≤ b := Nat.mod_le _ _
  rw [and_mod b B (2 * H - 1) hb (by omega) HP.out, or_u64 _ _ (by omega) (by omega), ← HQ.out, or_one_bit, HQ.out, ← HV.out, HP.out]
  unfold qtS
  rw [show 2 * H - 1 + 1 = 2 * H by omega, HQ2.out]
theorem fnone_as {B P W M E H : Nat} {low : Int} (hf : Fm B P W M E H low) (v : Nat) (hv : M * E + M / 2 = v) (w : World) :
    Calls Tryz.prog 51 #[.agg #[.int .i64 (B : Int), .int .i64 (P : Int), .int .i64 (W : Int)]] w fun e w' => e = .returned (.int .u64 (v : Int)) ∧ Below w.heap.size w w' := by
  obtain ⟨b1, b2, b3, b4, b5, b6, b7, b8, b9, b10, b11, b12, b13, b14, b15⟩ := hf.bd
  have HF := Lib.hid (fun (V : World) => infinite_as hf false (M * E) rfl V)
  have HO := Lib.hid (fun (V : World) => quieted_as hf (M * E) v (by
      rcases hf with ⟨rfl, rfl, rfl, rfl, rfl, rfl, rfl⟩ | ⟨rfl, rfl, rfl, rfl, rfl, rfl, rfl⟩ | ⟨rfl, rfl, rfl, rfl, rfl, rfl, rfl⟩ <;> decide) (by
      rcases hf with ⟨rfl, rfl, rfl, rfl, rfl, rfl, rfl⟩ | ⟨rfl, rfl, rfl, rfl, rfl, rfl, rfl⟩ | ⟨rfl, rfl, rfl, rfl, rfl, rfl, rfl⟩ <;> (rw [← hv]; rfl)) V)
  obtain ⟨r, hr⟩ : ∃ r, M * E = r := ⟨_, rfl⟩
  rw [hr] at HF HO
  clear hv hf b1 hr
  go_enter Tryz.func51, Tryz.ntmps51
  go_wp2_with fail
  obtain ⟨V, hV, z0, BW, sW⟩ := fframe1 w 25 (B : Int) (P : Int) (W : Int)
  rw [hV]
  clear hV
  have kb : FB V.drew w.heap.size 25 (B : Int) (P : Int) (W : Int) := z0.on ((Below.refl _ _).drew)
  have HB := Lib.hid (Below.step BW ((Below.refl _ _).drew))
  clear z0 BW
  go_region_held3 (fun w' => w'.cell? ⟨w.heap.size, 0, none⟩ = some (.int .i64 (B : Int)) ∧ w'.cell? ⟨w.heap.size, 1, none⟩ = some (.int .i64 (P : Int)) ∧ w'.cell? ⟨w.heap.size, 2, none⟩ = some (.int .i64 (W : Int)))
    ((exact ⟨kb.cells.1, kb.cells.2.1, kb.cells.2.2.1⟩))
    (first
      | (go_at_call 53
         (with_reducible refine (HF.out _).mono ?_)
         rintro en w3 ⟨rfl, b⟩
         replace kb := kb.on b
         replace HB := Lib.hid (Below.step HB.out b)
         clear b)
      | (go_at_call 42
         (with_reducible refine (HO.out _).mono ?_)
         rintro en w4 ⟨rfl, b⟩
         replace kb := kb.on b
         replace HB := Lib.hid (Below.step HB.out b)
         clear b))
  go_wp2_with fail
  go_ret
  exact ⟨rfl, HB.out⟩
end Go.Proofs.YtpachoeignpcbaaGreatDoor

namespace Go.Proofs.YtpachoeignpcbaaGreatDoor
open Go.RowKit
set_option linter.unusedVariables false

/-- what bits are. -/
def clsS (M E b : Nat) : Int :=
  if b / M % (E + 1) = 0 then (if b % M = 0 then 0 else 1) else if b / M % (E + 1) ≠ E then 2 else if b % M = 0 then 3 else if b % M / (M / 2) % 2 = 1 then 4 else 5
set_option maxHeartbeats 1000000 in
theorem class_as {B P W M E H : Nat} {low : Int} (hf : Fm B P W M E H low) (b : Nat) (v : Int) (hb : b < 18446744073709551616) (hv : clsS M E b = v) (w : World) :
    Calls Tryz.prog 43 #[.agg #[.int .i64 (B : Int), .int .i64 (P : Int), .int .i64 (W : Int)], .int .u64 (b : Int)] w fun e w' => e = .returned (.int .i64 v) ∧ Below w.heap.size w w' := by
  obtain ⟨b1, b2, b3, b4, b5, b6, b7, b8, b9, b10, b11, b12, b13, b14, b15⟩ := hf.bd
  unfold clsS at hv
  obtain ⟨r, hr⟩ : ∃ r, b % M = r := ⟨_, rfl⟩
  obtain ⟨x, hx⟩ : ∃ x, b / M % (E + 1) = x := ⟨_, rfl⟩
  obtain ⟨Q, hQ⟩ : ∃ Q, M / 2 = Q := ⟨_, rfl⟩
  have hr2 : r < M := by rw [← hr]; exact Nat.mod_lt _ (by omega)
  have hx2 : x < E + 1 := by rw [← hx]; exact Nat.mod_lt _ (by omega)
  have HR := Lib.hid (fun (V : World) => fraction_as hf b r hb hr V)
  have HX := Lib.hid (fun (V : World) => exponent_as hf b x hb hx V)
  have HO := Lib.hid (fun (V : World) => fones_b W E (by omega) hf.pW (W : Int) rfl V)
  have HQ := Lib.hid (fun (V : World) => quietBit_as hf Q hQ V)
  have hbit := and_bit_ne r (P - 2) Q (by omega) (by omega) (by rw [hf.pQ, hQ])
  rw [hr, hx, hQ] at hv
  clear hr hx hQ hf b1
  by_cases c1 : x = 0
  · rw [if_pos c1] at hv
    subst c1
    clear hbit
    by_cases c2 : r = 0
    · rw [if_pos c2] at hv
      subst c2 hv
      go_enter Tryz.func43, Tryz.ntmps43
      go_wp2_with fail
      obtain ⟨V, hV, z0, BW, sW⟩ := fframe1 w 25 (B : Int) (P : Int) (W : Int)
      rw [hV]
      clear hV
      refine (HR.out _).mono ?_
      rintro en w1 ⟨rfl, b⟩
      replace z0 := z0.on b
      replace BW := Below.step BW b
      clear b
      obtain ⟨z0c0, z0c1, z0c2, z0f0, z0f1, z0f2, z0l⟩ := z0.cells
      go_wp2_with fail
      refine (HX.out _).mono ?_
      rintro en w2 ⟨rfl, b⟩
      clear z0c0 z0c1 z0c2 z0f0 z0f1 z0f2 z0l
      replace z0 := z0.on b
      replace BW := Below.step BW b
      clear b
      obtain ⟨z0c0, z0c1, z0c2, z0f0, z0f1, z0f2, z0l⟩ := z0.cells
      go_wp2_with fail
      go_ret
      exact ⟨rfl, BW⟩
    · rw [if_neg c2] at hv
      subst hv
      have d2 : ((r : Int) == 0) = false := by simp; omega
      go_enter Tryz.func43, Tryz.ntmps43
      go_wp2_with fail
      obtain ⟨V, hV, z0, BW, sW⟩ := fframe1 w 25 (B : Int) (P : Int) (W : Int)
      rw [hV]
      clear hV
      refine (HR.out _).mono ?_
      rintro en w1 ⟨rfl, b⟩
      replace z0 := z0.on b
      replace BW := Below.step BW b
      clear b
      obtain ⟨z0c0, z0c1, z0c2, z0f0, z0f1, z0f2, z0l⟩ := z0.cells
      go_wp2_with fail
      refine (HX.out _).mono ?_
      rintro en w2 ⟨rfl, b⟩
      clear z0c0 z0c1 z0c2 z0f0 z0f1 z0f2 z0l
      replace z0 := z0.on b
      replace BW := Below.step BW b
      clear b
      obtain ⟨z0c0, z0c1, z0c2, z0f0, z0f1, z0f2, z0l⟩ := z0.cells
      go_wp2_with fail
      go_ret
      exact ⟨rfl, BW⟩
  · rw [if_neg c1] at hv
    have d1 : ((x : Int) == 0) = false := by simp; omega
    by_cases c3 : x ≠ E
    · rw [if_pos c3] at hv
      subst hv
      clear hbit
      have d3 : ((x : Int) != (E : Int)) = true := by rw [bne_iff_ne]; omega
      go_enter Tryz.func43, Tryz.ntmps43
      go_wp2_with fail
      obtain ⟨V, hV, z0, BW, sW⟩ := fframe1 w 25 (B : Int) (P : Int) (W : Int)
      rw [hV]
      clear hV
      refine (HR.out _).mono ?_
      rintro en w1 ⟨rfl, b⟩
      replace z0 := z0.on b
      replace BW := Below.step BW b
      clear b
      obtain ⟨z0c0, z0c1, z0c2, z0f0, z0f1, z0f2, z0l⟩ := z0.cells
      go_wp2_with fail
      refine (HX.out _).mono ?_
      rintro en w2 ⟨rfl, b⟩
      clear z0c0 z0c1 z0c2 z0f0 z0f1 z0f2 z0l
      replace z0 := z0.on b
      replace BW := Below.step BW b
      clear b
      obtain ⟨z0c0, z0c1, z0c2, z0f0, z0f1, z0f2, z0l⟩ := z0.cells
      go_wp2_with fail
      refine (HO.out _).mono ?_
      rintro en w3 ⟨rfl, b⟩
      clear z0c0 z0c1 z0c2 z0f0 z0f1 z0f2 z0l
      replace z0 := z0.on b
      replace BW := Below.step BW b
      clear b
      obtain ⟨z0c0, z0c1, z0c2, z0f0, z0f1, z0f2, z0l⟩ := z0.cells
      go_wp2_with fail
      go_ret
      exact ⟨rfl, BW⟩
    · rw [if_neg c3] at hv
      obtain rfl : x = E := by omega
      clear c3
      by_cases c2 : r = 0
      · rw [if_pos c2] at hv
        subst c2 hv
        clear hbit
        go_enter Tryz.func43, Tryz.ntmps43
        go_wp2_with fail
        obtain ⟨V, hV, z0, BW, sW⟩ := fframe1 w 25 (B : Int) (P : Int) (W : Int)
        rw [hV]
        clear hV
        refine (HR.out _).mono ?_
        rintro en w1 ⟨rfl, b⟩
        replace z0 := z0.on b
        replace BW := Below.step BW b
        clear b
        obtain ⟨z0c0, z0c1, z0c2, z0f0, z0f1, z0f2, z0l⟩ := z0.cells
        go_wp2_with fail
        refine (HX.out _).mono ?_
        rintro en w2 ⟨rfl, b⟩
        clear z0c0 z0c1 z0c2 z0f0 z0f1 z0f2 z0l
        replace z0 := z0.on b
        replace BW := Below.step BW b
        clear b
        obtain ⟨z0c0, z0c1, z0c2, z0f0, z0f1, z0f2, z0l⟩ := z0.cells
        go_wp2_with fail
        refine (HO.out _).mono ?_
        rintro en w3 ⟨rfl, b⟩
        clear z0c0 z0c1 z0c2 z0f0 z0f1 z0f2 z0l
        replace z0 := z0.on b
        replace BW := Below.step BW b
        clear b
        obtain ⟨z0c0, z0c1, z0c2, z0f0, z0f1, z0f2, z0l⟩ := z0.cells
        go_wp2_with fail
        go_ret
        exact ⟨rfl, BW⟩
      · rw [if_neg c2] at hv
        have d2 : ((r : Int) == 0) = false := by simp; omega
        by_cases c4 : r / Q % 2 = 1
        · rw [if_pos c4] at hv
          subst hv
          rw [decide_eq_true c4] at hbit
          go_enter Tryz.func43, Tryz.ntmps43
          go_wp2_with fail
          obtain ⟨V, hV, z0, BW, sW⟩ := fframe1 w 25 (B : Int) (P : Int) (W : Int)
          rw [hV]
          clear hV
          refine (HR.out _).mono ?_
          rintro en w1 ⟨rfl, b⟩
          replace z0 := z0.on b
          replace BW := Below.step BW b
          clear b
          obtain ⟨z0c0, z0c1, z0c2, z0f0, z0f1, z0f2, z0l⟩ := z0.cells
          go_wp2_with fail
          refine (HX.out _).mono ?_
          rintro en w2 ⟨rfl, b⟩
          clear z0c0 z0c1 z0c2 z0f0 z0f1 z0f2 z0l
          replace z0 := z0.on b
          replace BW := Below.step BW b
          clear b
          obtain ⟨z0c0, z0c1, z0c2, z0f0, z0f1, z0f2, z0l⟩ := z0.cells
          go_wp2_with fail
          refine (HO.out _).mono ?_
          rintro en w3 ⟨rfl, b⟩
          clear z0c0 z0c1 z0c2 z0f0 z0f1 z0f2 z0l
          replace z0 := z0.on b
          replace BW := Below.step BW b
          clear b
          obtain ⟨z0c0, z0c1, z0c2, z0f0, z0f1, z0f2, z0l⟩ := z0.cells
          go_wp2_with fail
          refine (HQ.out _).mono ?_
          rintro en w4 ⟨rfl, b⟩
          clear z0c0 z0c1 z0c2 z0f0 z0f1 z0f2 z0l
          replace z0 := z0.on b
          replace BW := Below.step BW b
          clear b
          obtain ⟨z0c0, z0c1, z0c2, z0f0, z0f1, z0f2, z0l⟩ := z0.cells
          go_wp2_with fail
          go_ret
          exact ⟨rfl, BW⟩
        · rw [if_neg c4] at hv
          subst hv
          rw [decide_eq_false c4] at hbit
          go_enter Tryz.func43, Tryz.ntmps43
          go_wp2_with fail
          obtain ⟨V, hV, z0, BW, sW⟩ := fframe1 w 25 (B : Int) (P : Int) (W : Int)
          rw [hV]
          clear hV
          refine (HR.out _).mono ?_
          rintro en w1 ⟨rfl, b⟩
          replace z0 := z0.on b
          replace BW := Below.step BW b
          clear b
          obtain ⟨z0c0, z0c1, z0c2, z0f0, z0f1, z0f2, z0l⟩ := z0.cells
          go_wp2_with fail
          refine (HX.out _).mono ?_
          rintro en w2 ⟨rfl, b⟩
          clear z0c0 z0c1 z0c2 z0f0 z0f1 z0f2 z0l
          replace z0 := z0.on b
          replace BW := Below.step BW b
          clear b
          obtain ⟨z0c0, z0c1, z0c2, z0f0, z0f1, z0f2, z0l⟩ := z0.cells
          go_wp2_with fail
          refine (HO.out _).mono ?_
          rintro en w3 ⟨rfl, b⟩
          clear z0c0 z0c1 z0c2 z0f0 z0f1 z0f2 z0l
          replace z0 := z0.on b
          replace BW := Below.step BW b
          clear b
          obtain ⟨z0c0, z0c1, z0c2, z0f0, z0f1, z0f2, z0l⟩ := z0.cells
          go_wp2_with fail
          refine (HQ.out _).mono ?_
          rintro en w4 ⟨rfl, b⟩
          clear z0c0 z0c1 z0c2 z0f0 z0f1 z0f2 z0l
          replace z0 := z0.on b
          replace BW := Below.step BW b
          clear b
          obtain ⟨z0c0, z0c1, z0c2, z0f0, z0f1, z0f2, z0l⟩ := z0.cells
          go_wp2_with fail
          go_ret
          exact ⟨rfl, BW⟩
end Go.Proofs.YtpachoeignpcbaaGreatDoor

namespace Go.Proofs.YtpachoeignpcbaaGreatDoor
open Go.RowKit
set_option linter.unusedVariables false

def frmL : List Int := [16, 11, 5, 32, 24, 8, 64, 53, 11]
/-- the table of formats in its variable. -/
def Frm (w : World) : Prop := ∀ j, j < 9 → w.cell? ⟨0, j, none⟩ = some (.int .i64 (frmL.getD j 0))
theorem Frm.lt {w : World} (h : Frm w) : 0 < w.heap.size := by
  have h0 := h 0 (by omega)
  rcases Nat.lt_or_ge 0 w.heap.size with hlt | hge
  · exact hlt
  · simp only [World.cell?] at h0
    rw [Array.getElem?_eq_none hge] at h0
    cases h0
theorem Frm.on {w w' : World} (h : Frm w) (hb : Below w.heap.size w w') : Frm w' := fun j hj => (hb.cell (p := ⟨_, j, none⟩) h.lt).trans (h j hj)
theorem fidx0 (w : World) : (Instr.index 40 (.agg #[.int .i64 16, .int .i64 11, .int .i64 5, .int .i64 32, .int .i64 24, .int .i64 8, .int .i64 64, .int .i64 53, .int .i64 11]) (.int .i64 0)).run Tryz.prog w = .ok (.agg #[.int .i64 16, .int .i64 11, .int .i64 5]) w := by kernel_rfl
theorem fidx1 (w : World) : (Instr.index 40 (.agg #[.int .i64 16, .int .i64 11, .int .i64 5, .int .i64 32, .int .i64 24, .int .i64 8, .int .i64 64, .int .i64 53, .int .i64 11]) (.int .i64 1)).run Tryz.prog w = .ok (.agg #[.int .i64 32, .int .i64 24, .int .i64 8]) w := by kernel_rfl
theorem fidx2 (w : World) : (Instr.index 40 (.agg #[.int .i64 16, .int .i64 11, .int .i64 5, .int .i64 32, .int .i64 24, .int .i64 8, .int .i64 64, .int .i64 53, .int .i64 11]) (.int .i64 2)).run Tryz.prog w = .ok (.agg #[.int .i64 64, .int .i64 53, .int .i64 11]) w := by kernel_rfl
set_option maxHeartbeats 1000000 in
theorem of_16 (w : World) (h : Frm w) :
    Calls Tryz.prog 5 #[.int .i64 16] w fun e w' => e = .returned (.tuple #[.agg #[.int .i64 16, .int .i64 11, .int .i64 5], .int .i64 0]) ∧ Below w.heap.size w w' := by
  have g0 := h 0 (by omega)
  have g1 := h 1 (by omega)
  have g2 := h 2 (by omega)
  have g3 := h 3 (by omega)
  have g4 := h 4 (by omega)
  have g5 := h 5 (by omega)
  have g6 := h 6 (by omega)
  have g7 := h 7 (by omega)
  have g8 := h 8 (by omega)
  have hlt := h.lt
  simp [frmL] at g0 g1 g2 g3 g4 g5 g6 g7 g8
  go_enter Tryz.func5, Tryz.ntmps5
  go_wp2_with fail
  obtain ⟨V, hV, z0, BW, sW⟩ := fframe1 w 25 0 0 0
  rw [hV]
  clear hV sW h hlt g0 g1 g2 g3 g4 g5 g6 g7 g8
  have ix0 := fidx0
  have ix1 := fidx1
  have ix2 := fidx2
  refine wp_loop_rounds 4 ?_
  rw [rounds_succ]
  obtain ⟨z0c0, z0c1, z0c2, z0f0, z0f1, z0f2, z0l⟩ := z0.cells
  go_wp2_with fail
  refine bodyPost_ret (v := .tuple #[.agg #[.int .i64 16, .int .i64 11, .int .i64 5], .int .i64 0]) (by simp [results, Tryz.results5, go_sem, z0c0, z0c1, z0c2, z0l]) rfl ⟨rfl, ?_⟩
  exact Below.step (below_put3 BW (Nat.le_refl _) _ _ _) (below_lit _ _)
set_option maxHeartbeats 1000000 in
theorem of_32 (w : World) (h : Frm w) :
    Calls Tryz.prog 5 #[.int .i64 32] w fun e w' => e = .returned (.tuple #[.agg #[.int .i64 32, .int .i64 24, .int .i64 8], .int .i64 0]) ∧ Below w.heap.size w w' := by
  have g0 := h 0 (by omega)
  have g1 := h 1 (by omega)
  have g2 := h 2 (by omega)
  have g3 := h 3 (by omega)
  have g4 := h 4 (by omega)
  have g5 := h 5 (by omega)
  have g6 := h 6 (by omega)
  have g7 := h 7 (by omega)
  have g8 := h 8 (by omega)
  have hlt := h.lt
  simp [frmL] at g0 g1 g2 g3 g4 g5 g6 g7 g8
  go_enter Tryz.func5, Tryz.ntmps5
  go_wp2_with fail
  obtain ⟨V, hV, z0, BW, sW⟩ := fframe1 w 25 0 0 0
  rw [hV]
  clear hV sW h hlt g0 g1 g2 g3 g4 g5 g6 g7 g8
  have ix0 := fidx0
  have ix1 := fidx1
  have ix2 := fidx2
  refine wp_loop_rounds 4 ?_
  rw [rounds_succ]
  obtain ⟨z0c0, z0c1, z0c2, z0f0, z0f1, z0f2, z0l⟩ := z0.cells
  go_wp2_with fail
  clear z0c0 z0c1 z0c2 z0f0 z0f1 z0f2 z0l
  obtain ⟨w1, e_w1⟩ : ∃ w', V.alloc (.cells #[.int .i64 16, .int .i64 11, .int .i64 5] 25) = w' := ⟨_, rfl⟩
  have b : Below V.heap.size V w1 := e_w1 ▸ below_lit _ _
  rw [e_w1]
  clear e_w1
  replace z0 := z0.on b
  replace BW := Below.step BW b
  clear b
  rw [rounds_succ]
  obtain ⟨z0c0, z0c1, z0c2, z0f0, z0f1, z0f2, z0l⟩ := z0.cells
  go_wp2_with fail
  refine bodyPost_ret (v := .tuple #[.agg #[.int .i64 32, .int .i64 24, .int .i64 8], .int .i64 0]) (by simp [results, Tryz.results5, go_sem, z0c0, z0c1, z0c2, z0l]) rfl ⟨rfl, ?_⟩
  exact Below.step (below_put3 BW (Nat.le_refl _) _ _ _) (below_lit _ _)
set_option maxHeartbeats 1000000 in
theorem of_64 (w : World) (h : Frm w) :
    Calls Tryz.prog 5 #[.int .i64 64] w fun e w' => e = .returned (.tuple #[.agg #[.int .i64 64, .int .i64 53, .int .i64 11], .int .i64 0]) ∧ Below w.heap.size w w' := by
  have g0 := h 0 (by omega)
  have g1 := h 1 (by omega)
  have g2 := h 2 (by omega)
  have g3 := h 3 (by omega)
  have g4 := h 4 (by omega)
  have g5 := h 5 (by omega)
  have g6 := h 6 (by omega)
  have g7 := h 7 (by omega)
  have g8 := h 8 (by omega)
  have hlt := h.lt
  simp [frmL] at g0 g1 g2 g3 g4 g5 g6 g7 g8
  go_enter Tryz.func5, Tryz.ntmps5
  go_wp2_with fail
  obtain ⟨V, hV, z0, BW, sW⟩ := fframe1 w 25 0 0 0
  rw [hV]
  clear hV sW h hlt g0 g1 g2 g3 g4 g5 g6 g7 g8
  have ix0 := fidx0
  have ix1 := fidx1
  have ix2 := fidx2
  refine wp_loop_rounds 4 ?_
  rw [rounds_succ]
  obtain ⟨z0c0, z0c1, z0c2, z0f0, z0f1, z0f2, z0l⟩ := z0.cells
  go_wp2_with fail
  clear z0c0 z0c1 z0c2 z0f0 z0f1 z0f2 z0l
  obtain ⟨w1, e_w1⟩ : ∃ w', V.alloc (.cells #[.int .i64 16, .int .i64 11, .int .i64 5] 25) = w' := ⟨_, rfl⟩
  have b : Below V.heap.size V w1 := e_w1 ▸ below_lit _ _
  rw [e_w1]
  clear e_w1
  replace z0 := z0.on b
  replace BW := Below.step BW b
  clear b
  rw [rounds_succ]
  obtain ⟨z0c0, z0c1, z0c2, z0f0, z0f1, z0f2, z0l⟩ := z0.cells
  go_wp2_with fail
  clear z0c0 z0c1 z0c2 z0f0 z0f1 z0f2 z0l
  obtain ⟨w2, e_w2⟩ : ∃ w', w1.alloc (.cells #[.int .i64 32, .int .i64 24, .int .i64 8] 25) = w' := ⟨_, rfl⟩
  have b : Below w1.heap.size w1 w2 := e_w2 ▸ below_lit _ _
  rw [e_w2]
  clear e_w2
  replace z0 := z0.on b
  replace BW := Below.step BW b
  clear b
  rw [rounds_succ]
  obtain ⟨z0c0, z0c1, z0c2, z0f0, z0f1, z0f2, z0l⟩ := z0.cells
  go_wp2_with fail
  refine bodyPost_ret (v := .tuple #[.agg #[.int .i64 64, .int .i64 53, .int .i64 11], .int .i64 0]) (by simp [results, Tryz.results5, go_sem, z0c0, z0c1, z0c2, z0l]) rfl ⟨rfl, ?_⟩
  exact Below.step (below_put3 BW (Nat.le_refl _) _ _ _) (below_lit _ _)
set_option maxHeartbeats 1000000 in
theorem of_bad (n : Int) (h1 : n ≠ 16) (h2 : n ≠ 32) (h3 : n ≠ 64) (w : World) (h : Frm w) :
    Calls Tryz.prog 5 #[.int .i64 n] w fun e w' => e = .returned (.tuple #[.agg #[.int .i64 0, .int .i64 0, .int .i64 0], .int .i64 1]) ∧ Below w.heap.size w w' := by
  have g0 := h 0 (by omega)
  have g1 := h 1 (by omega)
  have g2 := h 2 (by omega)
  have g3 := h 3 (by omega)
  have g4 := h 4 (by omega)
  have g5 := h 5 (by omega)
  have g6 := h 6 (by omega)
  have g7 := h 7 (by omega)
  have g8 := h 8 (by omega)
  have hlt := h.lt
  simp [frmL] at g0 g1 g2 g3 g4 g5 g6 g7 g8
  have d0 : ((16 : Int) == n) = false := by simp; omega
  have d1 : ((32 : Int) == n) = false := by simp; omega
  have d2 : ((64 : Int) == n) = false := by simp; omega
  go_enter Tryz.func5, Tryz.ntmps5
  go_wp2_with fail
  obtain ⟨V, hV, z0, BW, sW⟩ := fframe1 w 25 0 0 0
  rw [hV]
  clear hV sW h hlt g0 g1 g2 g3 g4 g5 g6 g7 g8
  have ix0 := fidx0
  have ix1 := fidx1
  have ix2 := fidx2
  refine wp_loop_rounds 4 ?_
  rw [rounds_succ]
  obtain ⟨z0c0, z0c1, z0c2, z0f0, z0f1, z0f2, z0l⟩ := z0.cells
  go_wp2_with fail
  clear z0c0 z0c1 z0c2 z0f0 z0f1 z0f2 z0l
  obtain ⟨w1, e_w1⟩ : ∃ w', V.alloc (.cells #[.int .i64 16, .int .i64 11, .int .i64 5] 25) = w' := ⟨_, rfl⟩
  have b : Below V.heap.size V w1 := e_w1 ▸ below_lit _ _
  rw [e_w1]
  clear e_w1
  replace z0 := z0.on b
  replace BW := Below.step BW b
  clear b
  rw [rounds_succ]
  obtain ⟨z0c0, z0c1, z0c2, z0f0, z0f1, z0f2, z0l⟩ := z0.cells
  go_wp2_with fail
  clear z0c0 z0c1 z0c2 z0f0 z0f1 z0f2 z0l
  obtain ⟨w2, e_w2⟩ : ∃ w', w1.alloc (.cells #[.int .i64 32, .int .i64 24, .int .i64 8] 25) = w' := ⟨_, rfl⟩
  have b : Below w1.heap.size w1 w2 := e_w2 ▸ below_lit _ _
  rw [e_w2]
  clear e_w2
  replace z0 := z0.on b
  replace BW := Below.step BW b
  clear b
  rw [rounds_succ]
  obtain ⟨z0c0, z0c1, z0c2, z0f0, z0f1, z0f2, z0l⟩ := z0.cells
  go_wp2_with fail
  clear z0c0 z0c1 z0c2 z0f0 z0f1 z0f2 z0l
  obtain ⟨w3, e_w3⟩ : ∃ w', w2.alloc (.cells #[.int .i64 64, .int .i64 53, .int .i64 11] 25) = w' := ⟨_, rfl⟩
  have b : Below w2.heap.size w2 w3 := e_w3 ▸ below_lit _ _
  rw [e_w3]
  clear e_w3
  replace z0 := z0.on b
  replace BW := Below.step BW b
  clear b
  rw [rounds_succ]
  obtain ⟨z0c0, z0c1, z0c2, z0f0, z0f1, z0f2, z0l⟩ := z0.cells
  go_wp2_with fail
  refine bodyPost_ret (v := .tuple #[.agg #[.int .i64 0, .int .i64 0, .int .i64 0], .int .i64 1]) (by simp [results, Tryz.results5, go_sem, z0c0, z0c1, z0c2]) rfl ⟨rfl, ?_⟩
  exact below_put3 BW (Nat.le_refl _) _ _ _
theorem of_fm {B P W M E H : Nat} {low : Int} (hf : Fm B P W M E H low) (w : World) (h : Frm w) :
    Calls Tryz.prog 5 #[.int .i64 (B : Int)] w fun e w' => e = .returned (.tuple #[.agg #[.int .i64 (B : Int), .int .i64 (P : Int), .int .i64 (W : Int)], .int .i64 0]) ∧ Below w.heap.size w w' := by
  rcases hf with ⟨rfl, rfl, rfl, rfl, rfl, rfl, rfl⟩ | ⟨rfl, rfl, rfl, rfl, rfl, rfl, rfl⟩ | ⟨rfl, rfl, rfl, rfl, rfl, rfl, rfl⟩
  · exact of_16 w h
  · exact of_32 w h
  · exact of_64 w h
end Go.Proofs.YtpachoeignpcbaaGreatDoor

namespace Go.Proofs.YtpachoeignpcbaaGreatDoor
open Go.RowKit
set_option linter.unusedVariables false

/-- a variable of a form and one of a number at a function's start. -/
theorem fframe2 (w : World) (t t1 : TypeId) (a b c : Int) (n : Bool) (A : Option Addr) (l k : Nat) (e : Int) : ∃ W, (w.alloc (.cells #[.int .i64 a, .int .i64 b, .int .i64 c] t)).alloc (dob n A l k e t1) = W ∧ FB W w.heap.size t a b c ∧ DB W (w.heap.size + 1) t1 n A l k e ∧ Below w.heap.size w W ∧ W.heap.size = w.heap.size + 2 :=
  ⟨_, rfl, (Box.made w t (notU_int _) (notU_int _) (notU_int _)).alloc _, DB.made _ (by simp) t1 n A l k e, ((Below.refl _ _).alloc (by simp <;> omega) _).alloc (by simp <;> omega) _, by simp⟩
/-- the size of bits, and its place. -/
def valN (M E b : Nat) : Nat := if b / M % (E + 1) = 0 then b % M else M + b % M
def valP (M E : Nat) (low : Int) (b : Nat) : Int := if b / M % (E + 1) = 0 then low else low + ((b / M % (E + 1) : Nat) : Int) - 1
/-- the number of bits, or why there is none. -/
def valS (M E H : Nat) (low : Int) (b : Nat) : D × Int :=
  if b < 2 * H then (if b / M % (E + 1) = E then (⟨false, 0, 0⟩, 1) else (D.pl ⟨decide (b / H % 2 = 1), valN M E b, valP M E low b⟩, 0)) else (⟨false, 0, 0⟩, 3)
theorem cls_inf {M E b : Nat} (h : b / M % (E + 1) = E) (hE : E ≠ 0) : clsS M E b = 3 ∨ clsS M E b = 4 ∨ clsS M E b = 5 := by
  unfold clsS
  rw [h, if_neg hE, if_neg (by simp)]
  by_cases h1 : b % M = 0
  · rw [if_pos h1]; exact .inl rfl
  · rw [if_neg h1]
    by_cases h2 : b % M / (M / 2) % 2 = 1
    · rw [if_pos h2]; exact .inr (.inl rfl)
    · rw [if_neg h2]; exact .inr (.inr rfl)
theorem cls_sub {M E b : Nat} (h : b / M % (E + 1) = 0) : clsS M E b = 0 ∨ clsS M E b = 1 := by
  unfold clsS
  rw [h, if_pos rfl]
  by_cases h1 : b % M = 0
  · rw [if_pos h1]; exact .inl rfl
  · rw [if_neg h1]; exact .inr rfl
theorem cls_norm {M E b : Nat} (h : b / M % (E + 1) ≠ 0) (h2 : b / M % (E + 1) ≠ E) : clsS M E b = 2 := by
  unfold clsS
  rw [if_neg h, if_pos h2]
theorem value_range {B P W M E H : Nat} {low : Int} (hf : Fm B P W M E H low) (b : Nat) (hb : b < 18446744073709551616) {w : World} (hT : Tab w) (hm : ¬ b < 2 * H) :
    Calls Tryz.prog 46 #[.agg #[.int .i64 (B : Int), .int .i64 (P : Int), .int .i64 (W : Int)], .int .u64 (b : Int)] w (DPx w false 0 0 3) := by
  obtain ⟨b1, b2, b3, b4, b5, b6, b7, b8, b9, b10, b11, b12, b13, b14, b15⟩ := hf.bd
  have HY := Lib.hid (fun (V : World) => fmay_as hf b hb false (decide_eq_false hm) V)
  clear hm hf b1
  go_enter Tryz.func46, Tryz.ntmps46
  go_wp2_with fail
  obtain ⟨V, hV, z0, z1, BW, sW⟩ := fframe2 w 25 48 (B : Int) (P : Int) (W : Int) false none 0 0 0
  rw [hV]
  clear hV sW
  replace hT := hT.on BW
  refine (HY.out _).mono ?_
  rintro en w1 ⟨rfl, b⟩
  replace z0 := z0.on b
  replace z1 := z1.on b
  replace hT := hT.on b
  replace BW := Below.step BW b
  clear b
  obtain ⟨z0c0, z0c1, z0c2, z0f0, z0f1, z0f2, z0l⟩ := z0.cells
  obtain ⟨z1c0, z1c1, z1c2, z1f0, z1f1, z1f2, z1l⟩ := z1.cells
  go_wp2_with fail
  refine bodyPost_ret (v := .tuple #[.agg #[.bool false, .slice none 0 0, .int .i64 0], .int .i64 3]) (by simp [results, Tryz.results46, go_sem, z1c0, z1c1, z1c2]) rfl ?_
  exact ⟨none, 0, rfl, Res.none_ _, below_put3 BW (by omega) _ _ _⟩
theorem below_size {w w' : World} (h : Below w.heap.size w w') : w.heap.size ≤ w'.heap.size := h.size
set_option maxHeartbeats 1000000 in
theorem value_arg {B P W M E H : Nat} {low : Int} (hf : Fm B P W M E H low) (b : Nat) (hb : b < 18446744073709551616) {w : World} (hT : Tab w) (hm : b < 2 * H) (hx : b / M % (E + 1) = E) :
    Calls Tryz.prog 46 #[.agg #[.int .i64 (B : Int), .int .i64 (P : Int), .int .i64 (W : Int)], .int .u64 (b : Int)] w (DPx w false 0 0 1) := by
  obtain ⟨b1, b2, b3, b4, b5, b6, b7, b8, b9, b10, b11, b12, b13, b14, b15⟩ := hf.bd
  obtain ⟨r, hr⟩ : ∃ r, b % M = r := ⟨_, rfl⟩
  have HY := Lib.hid (fun (V : World) => fmay_as hf b hb true (decide_eq_true hm) V)
  have HR := Lib.hid (fun (V : World) => fraction_as hf b r hb hr V)
  have HL := Lib.hid (fun (V : World) => flow_as hf low rfl V)
  have HC : Hid ((∀ V, Calls Tryz.prog 43 #[.agg #[.int .i64 (B : Int), .int .i64 (P : Int), .int .i64 (W : Int)], .int .u64 (b : Int)] V fun e w' => e = .returned (.int .i64 3) ∧ Below V.heap.size V w') ∨ (∀ V, Calls Tryz.prog 43 #[.agg #[.int .i64 (B : Int), .int .i64 (P : Int), .int .i64 (W : Int)], .int .u64 (b : Int)] V fun e w' => e = .returned (.int .i64 4) ∧ Below V.heap.size V w') ∨ (∀ V, Calls Tryz.prog 43 #[.agg #[.int .i64 (B : Int), .int .i64 (P : Int), .int .i64 (W : Int)], .int .u64 (b : Int)] V fun e w' => e = .returned (.int .i64 5) ∧ Below V.heap.size V w')) := by
    rcases cls_inf hx (by omega) with h | h | h
    · exact Lib.hid (.inl fun V => class_as hf b 3 hb h V)
    · exact Lib.hid (.inr (.inl fun V => class_as hf b 4 hb h V))
    · exact Lib.hid (.inr (.inr fun V => class_as hf b 5 hb h V))
  clear hm hf b1 hx hr
  rcases HC.out with h | h | h
  · clear HC
    have HC := Lib.hid h
    clear h
    go_enter Tryz.func46, Tryz.ntmps46
    go_wp2_with fail
    obtain ⟨V, hV, z0, z1, BW, sW⟩ := fframe2 w 25 48 (B : Int) (P : Int) (W : Int) false none 0 0 0
    rw [hV]
    clear hV sW
    replace hT := hT.on BW
    refine (HY.out _).mono ?_
    rintro en w1 ⟨rfl, b⟩
    replace z0 := z0.on b
    replace z1 := z1.on b
    replace hT := hT.on b
    replace BW := Below.step BW b
    clear b
    obtain ⟨z0c0, z0c1, z0c2, z0f0, z0f1, z0f2, z0l⟩ := z0.cells
    obtain ⟨z1c0, z1c1, z1c2, z1f0, z1f1, z1f2, z1l⟩ := z1.cells
    go_wp2_with fail
    clear z0c0 z0c1 z0c2 z0f0 z0f1 z0f2 z0l z1c0 z1c1 z1c2 z1f0 z1f1 z1f2 z1l
    replace z0 := z0.on ((Below.refl _ _).drew : Below w1.heap.size w1 w1.drew)
    replace z1 := z1.on ((Below.refl _ _).drew : Below w1.heap.size w1 w1.drew)
    replace hT := hT.on ((Below.refl _ _).drew : Below w1.heap.size w1 w1.drew)
    replace BW := Lib.hid (Below.step BW ((Below.refl _ _).drew : Below w1.heap.size w1 w1.drew))
    go_region_held3 (fun w' => w'.cell? ⟨w.heap.size, 0, none⟩ = some (.int .i64 (B : Int)) ∧ w'.cell? ⟨w.heap.size, 1, none⟩ = some (.int .i64 (P : Int)) ∧ w'.cell? ⟨w.heap.size, 2, none⟩ = some (.int .i64 (W : Int)))
      ((exact ⟨z0.cells.1, z0.cells.2.1, z0.cells.2.2.1⟩))
      (first
        | (go_at_call 76
           (with_reducible refine (HR.out _).mono ?_)
           rintro en w2 ⟨rfl, b⟩
           replace z0 := z0.on b
           replace z1 := z1.on b
           replace hT := hT.on b
           replace BW := Lib.hid (Below.step BW.out b)
           clear b)
        | (go_at_call 85
           (with_reducible refine (HL.out _).mono ?_)
           rintro en w3 ⟨rfl, b⟩
           replace z0 := z0.on b
           replace z1 := z1.on b
           replace hT := hT.on b
           replace BW := Lib.hid (Below.step BW.out b)
           clear b))
    replace BW := BW.out
    obtain ⟨z0c0, z0c1, z0c2, z0f0, z0f1, z0f2, z0l⟩ := z0.cells
    obtain ⟨z1c0, z1c1, z1c2, z1f0, z1f1, z1f2, z1l⟩ := z1.cells
    go_wp2_with fail
    refine (HC.out _).mono ?_
    rintro en w4 ⟨rfl, b⟩
    clear z0c0 z0c1 z0c2 z0f0 z0f1 z0f2 z0l z1c0 z1c1 z1c2 z1f0 z1f1 z1f2 z1l
    replace z0 := z0.on b
    replace z1 := z1.on b
    replace hT := hT.on b
    replace BW := Below.step BW b
    clear b
    obtain ⟨z0c0, z0c1, z0c2, z0f0, z0f1, z0f2, z0l⟩ := z0.cells
    obtain ⟨z1c0, z1c1, z1c2, z1f0, z1f1, z1f2, z1l⟩ := z1.cells
    go_wp2_with fail
    refine bodyPost_ret (v := .tuple #[.agg #[.bool false, .slice none 0 0, .int .i64 0], .int .i64 1]) (by simp [results, Tryz.results46, go_sem, z1c0, z1c1, z1c2]) rfl ?_
    exact ⟨none, 0, rfl, Res.none_ _, below_put3 BW (by omega) _ _ _⟩
  · clear HC
    have HC := Lib.hid h
    clear h
    go_enter Tryz.func46, Tryz.ntmps46
    go_wp2_with fail
    obtain ⟨V, hV, z0, z1, BW, sW⟩ := fframe2 w 25 48 (B : Int) (P : Int) (W : Int) false none 0 0 0
    rw [hV]
    clear hV sW
    replace hT := hT.on BW
    refine (HY.out _).mono ?_
    rintro en w1 ⟨rfl, b⟩
    replace z0 := z0.on b
    replace z1 := z1.on b
    replace hT := hT.on b
    replace BW := Below.step BW b
    clear b
    obtain ⟨z0c0, z0c1, z0c2, z0f0, z0f1, z0f2, z0l⟩ := z0.cells
    obtain ⟨z1c0, z1c1, z1c2, z1f0, z1f1, z1f2, z1l⟩ := z1.cells
    go_wp2_with fail
    clear z0c0 z0c1 z0c2 z0f0 z0f1 z0f2 z0l z1c0 z1c1 z1c2 z1f0 z1f1 z1f2 z1l
    replace z0 := z0.on ((Below.refl _ _).drew : Below w1.heap.size w1 w1.drew)
    replace z1 := z1.on ((Below.refl _ _).drew : Below w1.heap.size w1 w1.drew)
    replace hT := hT.on ((Below.refl _ _).drew : Below w1.heap.size w1 w1.drew)
    replace BW := Lib.hid (Below.step BW ((Below.refl _ _).drew : Below w1.heap.size w1 w1.drew))
    go_region_held3 (fun w' => w'.cell? ⟨w.heap.size, 0, none⟩ = some (.int .i64 (B : Int)) ∧ w'.cell? ⟨w.heap.size, 1, none⟩ = some (.int .i64 (P : Int)) ∧ w'.cell? ⟨w.heap.size, 2, none⟩ = some (.int .i64 (W : Int)))
      ((exact ⟨z0.cells.1, z0.cells.2.1, z0.cells.2.2.1⟩))
      (first
        | (go_at_call 76
           (with_reducible refine (HR.out _).mono ?_)
           rintro en w2 ⟨rfl, b⟩
           replace z0 := z0.on b
           replace z1 := z1.on b
           replace hT := hT.on b
           replace BW := Lib.hid (Below.step BW.out b)
           clear b)
        | (go_at_call 85
           (with_reducible refine (HL.out _).mono ?_)
           rintro en w3 ⟨rfl, b⟩
           replace z0 := z0.on b
           replace z1 := z1.on b
           replace hT := hT.on b
           replace BW := Lib.hid (Below.step BW.out b)
           clear b))
    replace BW := BW.out
    obtain ⟨z0c0, z0c1, z0c2, z0f0, z0f1, z0f2, z0l⟩ := z0.cells
    obtain ⟨z1c0, z1c1, z1c2, z1f0, z1f1, z1f2, z1l⟩ := z1.cells
    go_wp2_with fail
    refine (HC.out _).mono ?_
    rintro en w4 ⟨rfl, b⟩
    clear z0c0 z0c1 z0c2 z0f0 z0f1 z0f2 z0l z1c0 z1c1 z1c2 z1f0 z1f1 z1f2 z1l
    replace z0 := z0.on b
    replace z1 := z1.on b
    replace hT := hT.on b
    replace BW := Below.step BW b
    clear b
    obtain ⟨z0c0, z0c1, z0c2, z0f0, z0f1, z0f2, z0l⟩ := z0.cells
    obtain ⟨z1c0, z1c1, z1c2, z1f0, z1f1, z1f2, z1l⟩ := z1.cells
    go_wp2_with fail
    refine bodyPost_ret (v := .tuple #[.agg #[.bool false, .slice none 0 0, .int .i64 0], .int .i64 1]) (by simp [results, Tryz.results46, go_sem, z1c0, z1c1, z1c2]) rfl ?_
    exact ⟨none, 0, rfl, Res.none_ _, below_put3 BW (by omega) _ _ _⟩
  · clear HC
    have HC := Lib.hid h
    clear h
    go_enter Tryz.func46, Tryz.ntmps46
    go_wp2_with fail
    obtain ⟨V, hV, z0, z1, BW, sW⟩ := fframe2 w 25 48 (B : Int) (P : Int) (W : Int) false none 0 0 0
    rw [hV]
    clear hV sW
    replace hT := hT.on BW
    refine (HY.out _).mono ?_
    rintro en w1 ⟨rfl, b⟩
    replace z0 := z0.on b
    replace z1 := z1.on b
    replace hT := hT.on b
    replace BW := Below.step BW b
    clear b
    obtain ⟨z0c0, z0c1, z0c2, z0f0, z0f1, z0f2, z0l⟩ := z0.cells
    obtain ⟨z1c0, z1c1, z1c2, z1f0, z1f1, z1f2, z1l⟩ := z1.cells
    go_wp2_with fail
    clear z0c0 z0c1 z0c2 z0f0 z0f1 z0f2 z0l z1c0 z1c1 z1c2 z1f0 z1f1 z1f2 z1l
    replace z0 := z0.on ((Below.refl _ _).drew : Below w1.heap.size w1 w1.drew)
    replace z1 := z1.on ((Below.refl _ _).drew : Below w1.heap.size w1 w1.drew)
    replace hT := hT.on ((Below.refl _ _).drew : Below w1.heap.size w1 w1.drew)
    replace BW := Lib.hid (Below.step BW ((Below.refl _ _).drew : Below w1.heap.size w1 w1.drew))
    go_region_held3 (fun w' => w'.cell? ⟨w.heap.size, 0, none⟩ = some (.int .i64 (B : Int)) ∧ w'.cell? ⟨w.heap.size, 1, none⟩ = some (.int .i64 (P : Int)) ∧ w'.cell? ⟨w.heap.size, 2, none⟩ = some (.int .i64 (W : Int)))
      ((exact ⟨z0.cells.1, z0.cells.2.1, z0.cells.2.2.1⟩))
      (first
        | (go_at_call 76
           (with_reducible refine (HR.out _).mono ?_)
           rintro en w2 ⟨rfl, b⟩
           replace z0 := z0.on b
           replace z1 := z1.on b
           replace hT := hT.on b
           replace BW := Lib.hid (Below.step BW.out b)
           clear b)
        | (go_at_call 85
           (with_reducible refine (HL.out _).mono ?_)
           rintro en w3 ⟨rfl, b⟩
           replace z0 := z0.on b
           replace z1 := z1.on b
           replace hT := hT.on b
           replace BW := Lib.hid (Below.step BW.out b)
           clear b))
    replace BW := BW.out
    obtain ⟨z0c0, z0c1, z0c2, z0f0, z0f1, z0f2, z0l⟩ := z0.cells
    obtain ⟨z1c0, z1c1, z1c2, z1f0, z1f1, z1f2, z1l⟩ := z1.cells
    go_wp2_with fail
    refine (HC.out _).mono ?_
    rintro en w4 ⟨rfl, b⟩
    clear z0c0 z0c1 z0c2 z0f0 z0f1 z0f2 z0l z1c0 z1c1 z1c2 z1f0 z1f1 z1f2 z1l
    replace z0 := z0.on b
    replace z1 := z1.on b
    replace hT := hT.on b
    replace BW := Below.step BW b
    clear b
    obtain ⟨z0c0, z0c1, z0c2, z0f0, z0f1, z0f2, z0l⟩ := z0.cells
    obtain ⟨z1c0, z1c1, z1c2, z1f0, z1f1, z1f2, z1l⟩ := z1.cells
    go_wp2_with fail
    refine bodyPost_ret (v := .tuple #[.agg #[.bool false, .slice none 0 0, .int .i64 0], .int .i64 1]) (by simp [results, Tryz.results46, go_sem, z1c0, z1c1, z1c2]) rfl ?_
    exact ⟨none, 0, rfl, Res.none_ _, below_put3 BW (by omega) _ _ _⟩
theorem fof_as (n : Nat) (hn : n < 18446744073709551616) (w : World) : Calls Tryz.prog 88 #[.int .u64 (n : Int)] w fun e w' => ∃ A k, e = .returned (.slice A k k) ∧ Res w' A k n ∧ Below w.heap.size w w' :=
  (of_any n hn w).mono fun e w' ⟨A, k, h1, h2, _, h3⟩ => ⟨A, k, h1, h2, h3⟩
theorem Res.le2 {w : World} {A : Option Addr} {k n : Nat} (h : Res w A k n) (hn : n < 18446744073709551616) : k ≤ 2 := res_n_le h (k := 2) ((blen_le n 64).2 (by omega))
set_option maxHeartbeats 1000000 in
theorem value_sub {B P W M E H : Nat} {low : Int} (hf : Fm B P W M E H low) (b : Nat) (hb : b < 18446744073709551616) {w : World} (hT : Tab w) (hm : b < 2 * H) (hx : b / M % (E + 1) = 0) {dn : Bool} {dx : Nat} {de : Int} (hd : D.pl ⟨decide (b / H % 2 = 1), b % M, low⟩ = ⟨dn, dx, de⟩) :
    Calls Tryz.prog 46 #[.agg #[.int .i64 (B : Int), .int .i64 (P : Int), .int .i64 (W : Int)], .int .u64 (b : Int)] w (DPx w dn dx de 0) := by
  obtain ⟨b1, b2, b3, b4, b5, b6, b7, b8, b9, b10, b11, b12, b13, b14, b15⟩ := hf.bd
  obtain ⟨r, hr⟩ : ∃ r, b % M = r := ⟨_, rfl⟩
  obtain ⟨s, hs⟩ : ∃ s, decide (b / H % 2 = 1) = s := ⟨_, rfl⟩
  have hr2 : r < M := by rw [← hr]; exact Nat.mod_lt _ (by omega)
  have HY := Lib.hid (fun (V : World) => fmay_as hf b hb true (decide_eq_true hm) V)
  have HR := Lib.hid (fun (V : World) => fraction_as hf b r hb hr V)
  have HL := Lib.hid (fun (V : World) => flow_as hf low rfl V)
  have HN := Lib.hid (fun (V : World) => fneg_as hf b hb s hs V)
  obtain ⟨n, hn0⟩ : ∃ n, r = n := ⟨_, rfl⟩
  have hn : n < 18446744073709551616 := by omega
  have HD : Hid (plainS ⟨s, n, low⟩ = (⟨dn, dx, de⟩, 0)) := by
    rw [hr, hs, hn0] at hd
    unfold plainS
    rw [(D.may_iff _).2 ⟨Nat.le_trans ((blen_le n 64).2 (by omega)) (by omega), by show -8192 ≤ low; omega, by show low ≤ 8192; omega⟩, if_pos rfl, hd]
    exact Lib.hid rfl
  have HC : Hid ((∀ V, Calls Tryz.prog 43 #[.agg #[.int .i64 (B : Int), .int .i64 (P : Int), .int .i64 (W : Int)], .int .u64 (b : Int)] V fun e w' => e = .returned (.int .i64 0) ∧ Below V.heap.size V w') ∨ (∀ V, Calls Tryz.prog 43 #[.agg #[.int .i64 (B : Int), .int .i64 (P : Int), .int .i64 (W : Int)], .int .u64 (b : Int)] V fun e w' => e = .returned (.int .i64 1) ∧ Below V.heap.size V w')) := by
    rcases cls_sub hx with h | h
    · exact Lib.hid (.inl fun V => class_as hf b 0 hb h V)
    · exact Lib.hid (.inr fun V => class_as hf b 1 hb h V)
  clear hm hf b1 hx hr hs hd
  subst hn0
  rcases HC.out with h | h
  · clear HC
    have HC := Lib.hid h
    clear h
    go_enter Tryz.func46, Tryz.ntmps46
    go_wp2_with fail
    obtain ⟨V, hV, z0, z1, BW, sW⟩ := fframe2 w 25 48 (B : Int) (P : Int) (W : Int) false none 0 0 0
    rw [hV]
    clear hV sW
    replace hT := hT.on BW
    refine (HY.out _).mono ?_
    rintro en w1 ⟨rfl, b⟩
    replace z0 := z0.on b
    replace z1 := z1.on b
    replace hT := hT.on b
    replace BW := Below.step BW b
    clear b
    obtain ⟨z0c0, z0c1, z0c2, z0f0, z0f1, z0f2, z0l⟩ := z0.cells
    obtain ⟨z1c0, z1c1, z1c2, z1f0, z1f1, z1f2, z1l⟩ := z1.cells
    go_wp2_with fail
    clear z0c0 z0c1 z0c2 z0f0 z0f1 z0f2 z0l z1c0 z1c1 z1c2 z1f0 z1f1 z1f2 z1l
    replace z0 := z0.on ((Below.refl _ _).drew : Below w1.heap.size w1 w1.drew)
    replace z1 := z1.on ((Below.refl _ _).drew : Below w1.heap.size w1 w1.drew)
    replace hT := hT.on ((Below.refl _ _).drew : Below w1.heap.size w1 w1.drew)
    replace BW := Lib.hid (Below.step BW ((Below.refl _ _).drew : Below w1.heap.size w1 w1.drew))
    go_region_held3 (fun w' => w'.cell? ⟨w.heap.size, 0, none⟩ = some (.int .i64 (B : Int)) ∧ w'.cell? ⟨w.heap.size, 1, none⟩ = some (.int .i64 (P : Int)) ∧ w'.cell? ⟨w.heap.size, 2, none⟩ = some (.int .i64 (W : Int)))
      ((exact ⟨z0.cells.1, z0.cells.2.1, z0.cells.2.2.1⟩))
      (first
        | (go_at_call 76
           (with_reducible refine (HR.out _).mono ?_)
           rintro en w2 ⟨rfl, b⟩
           replace z0 := z0.on b
           replace z1 := z1.on b
           replace hT := hT.on b
           replace BW := Lib.hid (Below.step BW.out b)
           clear b)
        | (go_at_call 85
           (with_reducible refine (HL.out _).mono ?_)
           rintro en w3 ⟨rfl, b⟩
           replace z0 := z0.on b
           replace z1 := z1.on b
           replace hT := hT.on b
           replace BW := Lib.hid (Below.step BW.out b)
           clear b))
    replace BW := BW.out
    obtain ⟨z0c0, z0c1, z0c2, z0f0, z0f1, z0f2, z0l⟩ := z0.cells
    obtain ⟨z1c0, z1c1, z1c2, z1f0, z1f1, z1f2, z1l⟩ := z1.cells
    go_wp2_with fail
    refine (HC.out _).mono ?_
    rintro en w4 ⟨rfl, b⟩
    clear z0c0 z0c1 z0c2 z0f0 z0f1 z0f2 z0l z1c0 z1c1 z1c2 z1f0 z1f1 z1f2 z1l
    replace z0 := z0.on b
    replace z1 := z1.on b
    replace hT := hT.on b
    replace BW := Below.step BW b
    clear b
    obtain ⟨z0c0, z0c1, z0c2, z0f0, z0f1, z0f2, z0l⟩ := z0.cells
    obtain ⟨z1c0, z1c1, z1c2, z1f0, z1f1, z1f2, z1l⟩ := z1.cells
    go_wp2_with fail
    refine (HN.out _).mono ?_
    rintro en w5 ⟨rfl, b⟩
    clear z0c0 z0c1 z0c2 z0f0 z0f1 z0f2 z0l z1c0 z1c1 z1c2 z1f0 z1f1 z1f2 z1l
    replace z0 := z0.on b
    replace z1 := z1.on b
    replace hT := hT.on b
    replace BW := Below.step BW b
    clear b
    obtain ⟨z0c0, z0c1, z0c2, z0f0, z0f1, z0f2, z0l⟩ := z0.cells
    obtain ⟨z1c0, z1c1, z1c2, z1f0, z1f1, z1f2, z1l⟩ := z1.cells
    go_wp2_with fail
    refine (fof_as r hn _).mono ?_
    rintro en w6 ⟨V_rn, v_rn, rfl, rn, b⟩
    clear z0c0 z0c1 z0c2 z0f0 z0f1 z0f2 z0l z1c0 z1c1 z1c2 z1f0 z1f1 z1f2 z1l
    replace z0 := z0.on b
    replace z1 := z1.on b
    replace hT := hT.on b
    replace BW := Below.step BW b
    clear b
    have ln := rn.le2 hn
    obtain ⟨z0c0, z0c1, z0c2, z0f0, z0f1, z0f2, z0l⟩ := z0.cells
    obtain ⟨z1c0, z1c1, z1c2, z1f0, z1f1, z1f2, z1l⟩ := z1.cells
    go_wp2_with fail
    refine (dplain_as (rn.arg (by omega)) (by omega) hT HD.out).mono ?_
    rintro en w7 ⟨V_rd, v_rd, rfl, rd, b⟩
    clear z0c0 z0c1 z0c2 z0f0 z0f1 z0f2 z0l z1c0 z1c1 z1c2 z1f0 z1f1 z1f2 z1l
    replace z0 := z0.on b
    replace z1 := z1.on b
    replace hT := hT.on b
    replace rn := rn.on b
    replace BW := Below.step BW b
    clear b
    obtain ⟨z0c0, z0c1, z0c2, z0f0, z0f1, z0f2, z0l⟩ := z0.cells
    obtain ⟨z1c0, z1c1, z1c2, z1f0, z1f1, z1f2, z1l⟩ := z1.cells
    go_wp2_with fail
    refine bodyPost_ret (v := .tuple #[.agg #[.bool dn, .slice V_rd v_rd v_rd, .int .i64 de], .int .i64 0]) (by simp [results, Tryz.results46, go_sem, z1c0, z1c1, z1c2]) rfl ?_
    exact ⟨V_rd, v_rd, rfl, z1.res rd _ _ _, below_put3 BW (by omega) _ _ _⟩
  · clear HC
    have HC := Lib.hid h
    clear h
    go_enter Tryz.func46, Tryz.ntmps46
    go_wp2_with fail
    obtain ⟨V, hV, z0, z1, BW, sW⟩ := fframe2 w 25 48 (B : Int) (P : Int) (W : Int) false none 0 0 0
    rw [hV]
    clear hV sW
    replace hT := hT.on BW
    refine (HY.out _).mono ?_
    rintro en w1 ⟨rfl, b⟩
    replace z0 := z0.on b
    replace z1 := z1.on b
    replace hT := hT.on b
    replace BW := Below.step BW b
    clear b
    obtain ⟨z0c0, z0c1, z0c2, z0f0, z0f1, z0f2, z0l⟩ := z0.cells
    obtain ⟨z1c0, z1c1, z1c2, z1f0, z1f1, z1f2, z1l⟩ := z1.cells
    go_wp2_with fail
    clear z0c0 z0c1 z0c2 z0f0 z0f1 z0f2 z0l z1c0 z1c1 z1c2 z1f0 z1f1 z1f2 z1l
    replace z0 := z0.on ((Below.refl _ _).drew : Below w1.heap.size w1 w1.drew)
    replace z1 := z1.on ((Below.refl _ _).drew : Below w1.heap.size w1 w1.drew)
    replace hT := hT.on ((Below.refl _ _).drew : Below w1.heap.size w1 w1.drew)
    replace BW := Lib.hid (Below.step BW ((Below.refl _ _).drew : Below w1.heap.size w1 w1.drew))
    go_region_held3 (fun w' => w'.cell? ⟨w.heap.size, 0, none⟩ = some (.int .i64 (B : Int)) ∧ w'.cell? ⟨w.heap.size, 1, none⟩ = some (.int .i64 (P : Int)) ∧ w'.cell? ⟨w.heap.size, 2, none⟩ = some (.int .i64 (W : Int)))
      ((exact ⟨z0.cells.1, z0.cells.2.1, z0.cells.2.2.1⟩))
      (first
        | (go_at_call 76
           (with_reducible refine (HR.out _).mono ?_)
           rintro en w2 ⟨rfl, b⟩
           replace z0 := z0.on b
           replace z1 := z1.on b
           replace hT := hT.on b
           replace BW := Lib.hid (Below.step BW.out b)
           clear b)
        | (go_at_call 85
           (with_reducible refine (HL.out _).mono ?_)
           rintro en w3 ⟨rfl, b⟩
           replace z0 := z0.on b
           replace z1 := z1.on b
           replace hT := hT.on b
           replace BW := Lib.hid (Below.step BW.out b)
           clear b))
    replace BW := BW.out
    obtain ⟨z0c0, z0c1, z0c2, z0f0, z0f1, z0f2, z0l⟩ := z0.cells
    obtain ⟨z1c0, z1c1, z1c2, z1f0, z1f1, z1f2, z1l⟩ := z1.cells
    go_wp2_with fail
    refine (HC.out _).mono ?_
    rintro en w4 ⟨rfl, b⟩
    clear z0c0 z0c1 z0c2 z0f0 z0f1 z0f2 z0l z1c0 z1c1 z1c2 z1f0 z1f1 z1f2 z1l
    replace z0 := z0.on b
    replace z1 := z1.on b
    replace hT := hT.on b
    replace BW := Below.step BW b
    clear b
    obtain ⟨z0c0, z0c1, z0c2, z0f0, z0f1, z0f2, z0l⟩ := z0.cells
    obtain ⟨z1c0, z1c1, z1c2, z1f0, z1f1, z1f2, z1l⟩ := z1.cells
    go_wp2_with fail
    refine (HN.out _).mono ?_
    rintro en w5 ⟨rfl, b⟩
    clear z0c0 z0c1 z0c2 z0f0 z0f1 z0f2 z0l z1c0 z1c1 z1c2 z1f0 z1f1 z1f2 z1l
    replace z0 := z0.on b
    replace z1 := z1.on b
    replace hT := hT.on b
    replace BW := Below.step BW b
    clear b
    obtain ⟨z0c0, z0c1, z0c2, z0f0, z0f1, z0f2, z0l⟩ := z0.cells
    obtain ⟨z1c0, z1c1, z1c2, z1f0, z1f1, z1f2, z1l⟩ := z1.cells
    go_wp2_with fail
    refine (fof_as r hn _).mono ?_
    rintro en w6 ⟨V_rn, v_rn, rfl, rn, b⟩
    clear z0c0 z0c1 z0c2 z0f0 z0f1 z0f2 z0l z1c0 z1c1 z1c2 z1f0 z1f1 z1f2 z1l
    replace z0 := z0.on b
    replace z1 := z1.on b
    replace hT := hT.on b
    replace BW := Below.step BW b
    clear b
    have ln := rn.le2 hn
    obtain ⟨z0c0, z0c1, z0c2, z0f0, z0f1, z0f2, z0l⟩ := z0.cells
    obtain ⟨z1c0, z1c1, z1c2, z1f0, z1f1, z1f2, z1l⟩ := z1.cells
    go_wp2_with fail
    refine (dplain_as (rn.arg (by omega)) (by omega) hT HD.out).mono ?_
    rintro en w7 ⟨V_rd, v_rd, rfl, rd, b⟩
    clear z0c0 z0c1 z0c2 z0f0 z0f1 z0f2 z0l z1c0 z1c1 z1c2 z1f0 z1f1 z1f2 z1l
    replace z0 := z0.on b
    replace z1 := z1.on b
    replace hT := hT.on b
    replace rn := rn.on b
    replace BW := Below.step BW b
    clear b
    obtain ⟨z0c0, z0c1, z0c2, z0f0, z0f1, z0f2, z0l⟩ := z0.cells
    obtain ⟨z1c0, z1c1, z1c2, z1f0, z1f1, z1f2, z1l⟩ := z1.cells
    go_wp2_with fail
    refine bodyPost_ret (v := .tuple #[.agg #[.bool dn, .slice V_rd v_rd v_rd, .int .i64 de], .int .i64 0]) (by simp [results, Tryz.results46, go_sem, z1c0, z1c1, z1c2]) rfl ?_
    exact ⟨V_rd, v_rd, rfl, z1.res rd _ _ _, below_put3 BW (by omega) _ _ _⟩
set_option maxHeartbeats 1000000 in
theorem value_norm {B P W M E H : Nat} {low : Int} (hf : Fm B P W M E H low) (b : Nat) (hb : b < 18446744073709551616) {w : World} (hT : Tab w) (hm : b < 2 * H) (hx : b / M % (E + 1) ≠ 0) (hx2 : b / M % (E + 1) ≠ E) {dn : Bool} {dx : Nat} {de : Int} (hd : D.pl ⟨decide (b / H % 2 = 1), M + b % M, low + ((b / M % (E + 1) : Nat) : Int) - 1⟩ = ⟨dn, dx, de⟩) :
    Calls Tryz.prog 46 #[.agg #[.int .i64 (B : Int), .int .i64 (P : Int), .int .i64 (W : Int)], .int .u64 (b : Int)] w (DPx w dn dx de 0) := by
  obtain ⟨b1, b2, b3, b4, b5, b6, b7, b8, b9, b10, b11, b12, b13, b14, b15⟩ := hf.bd
  obtain ⟨r, hr⟩ : ∃ r, b % M = r := ⟨_, rfl⟩
  obtain ⟨s, hs⟩ : ∃ s, decide (b / H % 2 = 1) = s := ⟨_, rfl⟩
  have hr2 : r < M := by rw [← hr]; exact Nat.mod_lt _ (by omega)
  have HY := Lib.hid (fun (V : World) => fmay_as hf b hb true (decide_eq_true hm) V)
  have HR := Lib.hid (fun (V : World) => fraction_as hf b r hb hr V)
  have HL := Lib.hid (fun (V : World) => flow_as hf low rfl V)
  have HN := Lib.hid (fun (V : World) => fneg_as hf b hb s hs V)
  obtain ⟨x, hxx⟩ : ∃ x, b / M % (E + 1) = x := ⟨_, rfl⟩
  have hx3 : x < E + 1 := by rw [← hxx]; exact Nat.mod_lt _ (by omega)
  obtain ⟨n, hn0⟩ : ∃ n, M + r = n := ⟨_, rfl⟩
  have hn : n < 18446744073709551616 := by omega
  obtain ⟨q, hq⟩ : ∃ q : Int, low + ((x : Int) - 1) = q := ⟨_, rfl⟩
  have hq1 : -8192 ≤ q := by omega
  have hq2 : q ≤ 8192 := by omega
  have HD : Hid (plainS ⟨s, n, q⟩ = (⟨dn, dx, de⟩, 0)) := by
    rw [hr, hs, hxx, hn0, show low + (x : Int) - 1 = q by omega] at hd
    unfold plainS
    rw [(D.may_iff _).2 ⟨Nat.le_trans ((blen_le n 64).2 (by omega)) (by omega), hq1, hq2⟩, if_pos rfl, hd]
    exact Lib.hid rfl
  have HC := Lib.hid (fun (V : World) => class_as hf b 2 hb (cls_norm hx hx2) V)
  have HB := Lib.hid (fun (V : World) => fbit_as (P - 1) M (by omega) hf.pP ((P : Int) - 1) (by omega) V)
  have HX := Lib.hid (fun (V : World) => exponent_as hf b x hb hxx V)
  have hor : bits BinOp.or IntKind.u64 (r : Int) (M : Int) = (n : Int) := by
    have h1 := hf.pP
    rw [or_u64 r M (by omega) (by omega), ← h1, or_above _ _ (by rw [h1]; exact hr2), h1, hn0]
  have q1 : IntKind.i64.wrap (x : Int) = (x : Int) := IntWalk.i64_in _ (by omega)
  have q2 : IntKind.i64.wrap ((x : Int) - 1) = (x : Int) - 1 := IntWalk.i64_in _ (by omega)
  have q3 : IntKind.i64.wrap (low + ((x : Int) - 1)) = q := by rw [IntWalk.i64_in _ (by omega)]; exact hq
  clear hm hf b1 hx hx2 hr hs hd hxx hn0
  go_enter Tryz.func46, Tryz.ntmps46
  go_wp2_with fail
  obtain ⟨V, hV, z0, z1, BW, sW⟩ := fframe2 w 25 48 (B : Int) (P : Int) (W : Int) false none 0 0 0
  rw [hV]
  clear hV sW
  replace hT := hT.on BW
  refine (HY.out _).mono ?_
  rintro en w1 ⟨rfl, b⟩
  replace z0 := z0.on b
  replace z1 := z1.on b
  replace hT := hT.on b
  replace BW := Below.step BW b
  clear b
  obtain ⟨z0c0, z0c1, z0c2, z0f0, z0f1, z0f2, z0l⟩ := z0.cells
  obtain ⟨z1c0, z1c1, z1c2, z1f0, z1f1, z1f2, z1l⟩ := z1.cells
  go_wp2_with fail
  clear z0c0 z0c1 z0c2 z0f0 z0f1 z0f2 z0l z1c0 z1c1 z1c2 z1f0 z1f1 z1f2 z1l
  replace z0 := z0.on ((Below.refl _ _).drew : Below w1.heap.size w1 w1.drew)
  replace z1 := z1.on ((Below.refl _ _).drew : Below w1.heap.size w1 w1.drew)
  replace hT := hT.on ((Below.refl _ _).drew : Below w1.heap.size w1 w1.drew)
  replace BW := Lib.hid (Below.step BW ((Below.refl _ _).drew : Below w1.heap.size w1 w1.drew))
  go_region_held3 (fun w' => w'.cell? ⟨w.heap.size, 0, none⟩ = some (.int .i64 (B : Int)) ∧ w'.cell? ⟨w.heap.size, 1, none⟩ = some (.int .i64 (P : Int)) ∧ w'.cell? ⟨w.heap.size, 2, none⟩ = some (.int .i64 (W : Int)))
    ((exact ⟨z0.cells.1, z0.cells.2.1, z0.cells.2.2.1⟩))
    (first
      | (go_at_call 76
         (with_reducible refine (HR.out _).mono ?_)
         rintro en w2 ⟨rfl, b⟩
         replace z0 := z0.on b
         replace z1 := z1.on b
         replace hT := hT.on b
         replace BW := Lib.hid (Below.step BW.out b)
         clear b)
      | (go_at_call 85
         (with_reducible refine (HL.out _).mono ?_)
         rintro en w3 ⟨rfl, b⟩
         replace z0 := z0.on b
         replace z1 := z1.on b
         replace hT := hT.on b
         replace BW := Lib.hid (Below.step BW.out b)
         clear b))
  replace BW := BW.out
  obtain ⟨z0c0, z0c1, z0c2, z0f0, z0f1, z0f2, z0l⟩ := z0.cells
  obtain ⟨z1c0, z1c1, z1c2, z1f0, z1f1, z1f2, z1l⟩ := z1.cells
  go_wp2_with fail
  refine (HC.out _).mono ?_
  rintro en w4 ⟨rfl, b⟩
  clear z0c0 z0c1 z0c2 z0f0 z0f1 z0f2 z0l z1c0 z1c1 z1c2 z1f0 z1f1 z1f2 z1l
  replace z0 := z0.on b
  replace z1 := z1.on b
  replace hT := hT.on b
  replace BW := Below.step BW b
  clear b
  obtain ⟨z0c0, z0c1, z0c2, z0f0, z0f1, z0f2, z0l⟩ := z0.cells
  obtain ⟨z1c0, z1c1, z1c2, z1f0, z1f1, z1f2, z1l⟩ := z1.cells
  go_wp2_with fail
  refine (HB.out _).mono ?_
  rintro en w' ⟨rfl, rfl⟩
  go_wp2_with fail
  refine (HX.out _).mono ?_
  rintro en w5 ⟨rfl, b⟩
  clear z0c0 z0c1 z0c2 z0f0 z0f1 z0f2 z0l z1c0 z1c1 z1c2 z1f0 z1f1 z1f2 z1l
  replace z0 := z0.on b
  replace z1 := z1.on b
  replace hT := hT.on b
  replace BW := Below.step BW b
  clear b
  obtain ⟨z0c0, z0c1, z0c2, z0f0, z0f1, z0f2, z0l⟩ := z0.cells
  obtain ⟨z1c0, z1c1, z1c2, z1f0, z1f1, z1f2, z1l⟩ := z1.cells
  go_wp2_with fail
  refine (HN.out _).mono ?_
  rintro en w6 ⟨rfl, b⟩
  clear z0c0 z0c1 z0c2 z0f0 z0f1 z0f2 z0l z1c0 z1c1 z1c2 z1f0 z1f1 z1f2 z1l
  replace z0 := z0.on b
  replace z1 := z1.on b
  replace hT := hT.on b
  replace BW := Below.step BW b
  clear b
  obtain ⟨z0c0, z0c1, z0c2, z0f0, z0f1, z0f2, z0l⟩ := z0.cells
  obtain ⟨z1c0, z1c1, z1c2, z1f0, z1f1, z1f2, z1l⟩ := z1.cells
  go_wp2_with fail
  refine (fof_as n hn _).mono ?_
  rintro en w7 ⟨V_rn, v_rn, rfl, rn, b⟩
  clear z0c0 z0c1 z0c2 z0f0 z0f1 z0f2 z0l z1c0 z1c1 z1c2 z1f0 z1f1 z1f2 z1l
  replace z0 := z0.on b
  replace z1 := z1.on b
  replace hT := hT.on b
  replace BW := Below.step BW b
  clear b
  have ln := rn.le2 hn
  obtain ⟨z0c0, z0c1, z0c2, z0f0, z0f1, z0f2, z0l⟩ := z0.cells
  obtain ⟨z1c0, z1c1, z1c2, z1f0, z1f1, z1f2, z1l⟩ := z1.cells
  go_wp2_with fail
  refine (dplain_as (rn.arg (by omega)) (by omega) hT HD.out).mono ?_
  rintro en w8 ⟨V_rd, v_rd, rfl, rd, b⟩
  clear z0c0 z0c1 z0c2 z0f0 z0f1 z0f2 z0l z1c0 z1c1 z1c2 z1f0 z1f1 z1f2 z1l
  replace z0 := z0.on b
  replace z1 := z1.on b
  replace hT := hT.on b
  replace rn := rn.on b
  replace BW := Below.step BW b
  clear b
  obtain ⟨z0c0, z0c1, z0c2, z0f0, z0f1, z0f2, z0l⟩ := z0.cells
  obtain ⟨z1c0, z1c1, z1c2, z1f0, z1f1, z1f2, z1l⟩ := z1.cells
  go_wp2_with fail
  refine bodyPost_ret (v := .tuple #[.agg #[.bool dn, .slice V_rd v_rd v_rd, .int .i64 de], .int .i64 0]) (by simp [results, Tryz.results46, go_sem, z1c0, z1c1, z1c2]) rfl ?_
  exact ⟨V_rd, v_rd, rfl, z1.res rd _ _ _, below_put3 BW (by omega) _ _ _⟩
theorem value_as {B P W M E H : Nat} {low : Int} (hf : Fm B P W M E H low) (b : Nat) (hb : b < 18446744073709551616) {w : World} (hT : Tab w) {rn : Bool} {rx : Nat} {re err : Int} (hr : valS M E H low b = (⟨rn, rx, re⟩, err)) :
    Calls Tryz.prog 46 #[.agg #[.int .i64 (B : Int), .int .i64 (P : Int), .int .i64 (W : Int)], .int .u64 (b : Int)] w (DPx w rn rx re err) := by
  obtain ⟨b1, b2, b3, b4, b5, b6, b7, b8, b9, b10, b11, b12, b13, b14, b15⟩ := hf.bd
  unfold valS at hr
  by_cases hm : b < 2 * H
  · rw [if_pos hm] at hr
    by_cases hx : b / M % (E + 1) = E
    · rw [if_pos hx] at hr
      simp only [Prod.mk.injEq, D.mk.injEq] at hr
      obtain ⟨⟨rfl, rfl, rfl⟩, rfl⟩ := hr
      exact value_arg hf b hb hT hm hx
    · rw [if_neg hx] at hr
      simp only [Prod.mk.injEq] at hr
      obtain ⟨hd, rfl⟩ := hr
      unfold valN valP at hd
      by_cases h0 : b / M % (E + 1) = 0
      · rw [if_pos h0, if_pos h0] at hd
        exact value_sub hf b hb hT hm h0 hd
      · rw [if_neg h0, if_neg h0] at hd
        exact value_norm hf b hb hT hm h0 hx hd
  · rw [if_neg hm] at hr
    simp only [Prod.mk.injEq, D.mk.injEq] at hr
    obtain ⟨⟨rfl, rfl, rfl⟩, rfl⟩ := hr
    exact value_range hf b hb hT hm
end Go.Proofs.YtpachoeignpcbaaGreatDoor

namespace Go.Proofs.YtpachoeignpcbaaGreatDoor
open Go.RowKit
set_option linter.unusedVariables false

/-- the place that a number's bits are told from. -/
def plcS (P : Nat) (low : Int) (a : D) : Int := max ((blen a.x : Int) - 1 + a.e - ((P : Int) - 1)) low
/-- a number's bits, or why there are none. -/
def putS (P M E H : Nat) (low : Int) (a : D) : Nat × Int :=
  if a.may then (if a.x = 0 then (0, 0) else if a.pl.e < plcS P low a ∨ low + (E : Int) - 2 < plcS P low a then (0, 10) else (sgn H a.pl.neg ((plcS P low a - low).toNat * M + a.pl.x * 2 ^ (a.pl.e - plcS P low a).toNat), 0)) else (0, 3)
theorem zbox_none (w : World) : True := trivial
theorem put_range {B P W M E H : Nat} {low : Int} (hf : Fm B P W M E H low) {A : Option Addr} {n c x : Nat} {neg : Bool} {e : Int} {w : World} (h : Arg w A n c x) (hs : n ≤ 30000) (hT : Tab w) (hm : D.may ⟨neg, x, e⟩ = false) :
    Calls Tryz.prog 94 #[.agg #[.int .i64 (B : Int), .int .i64 (P : Int), .int .i64 (W : Int)], .agg #[.bool neg, .slice A n c, .int .i64 e]] w fun en w' => en = .returned (.tuple #[.int .u64 0, .int .i64 3]) ∧ Below w.heap.size w w' := by
  obtain ⟨b1, b2, b3, b4, b5, b6, b7, b8, b9, b10, b11, b12, b13, b14, b15⟩ := hf.bd
  have HD : Hid (plainS ⟨neg, x, e⟩ = (⟨false, 0, 0⟩, 3)) := by unfold plainS; rw [hm]; exact Lib.hid rfl
  clear hm hf b1
  go_enter Tryz.func94, Tryz.ntmps94
  go_wp2_with fail
  obtain ⟨V, hV, z0, z1, BW, sW⟩ := fframe2 w 25 48 (B : Int) (P : Int) (W : Int) neg A n c e
  rw [hV]
  clear hV sW
  replace hT := hT.on BW
  replace h := h.on BW
  refine (dplain_as h hs hT HD.out).mono ?_
  rintro en w1 ⟨V_rd, v_rd, rfl, rd, b⟩
  replace z0 := z0.on b
  replace z1 := z1.on b
  replace hT := hT.on b
  replace h := h.on b
  replace BW := Below.step BW b
  clear b
  obtain ⟨z0c0, z0c1, z0c2, z0f0, z0f1, z0f2, z0l⟩ := z0.cells
  obtain ⟨z1c0, z1c1, z1c2, z1f0, z1f1, z1f2, z1l⟩ := z1.cells
  go_wp2_with fail
  refine bodyPost_ret (v := .tuple #[.int .u64 0, .int .i64 3]) (by simp [results, Tryz.results94, go_sem]) rfl ⟨rfl, Below.step BW (below_lit _ _)⟩
theorem put_zero {B P W M E H : Nat} {low : Int} (hf : Fm B P W M E H low) {A : Option Addr} {n c x : Nat} {neg : Bool} {e : Int} {w : World} (h : Arg w A n c x) (hs : n ≤ 30000) (hT : Tab w) (hm : D.may ⟨neg, x, e⟩ = true) (h0 : x = 0) :
    Calls Tryz.prog 94 #[.agg #[.int .i64 (B : Int), .int .i64 (P : Int), .int .i64 (W : Int)], .agg #[.bool neg, .slice A n c, .int .i64 e]] w fun en w' => en = .returned (.tuple #[.int .u64 0, .int .i64 0]) ∧ Below w.heap.size w w' := by
  obtain ⟨b1, b2, b3, b4, b5, b6, b7, b8, b9, b10, b11, b12, b13, b14, b15⟩ := hf.bd
  have HD : Hid (plainS ⟨neg, x, e⟩ = (⟨false, 0, 0⟩, 0)) := by unfold plainS; rw [hm, if_pos rfl, D.pl_zero h0]; exact Lib.hid rfl
  have HP : Hid (topS ⟨neg, x, e⟩ = (0, 1)) := by unfold topS; rw [hm, if_pos rfl, if_pos h0]; exact Lib.hid rfl
  have HN := Lib.hid (fun (V : World) => nought_as hf false 0 rfl V)
  clear hm hf b1 h0
  go_enter Tryz.func94, Tryz.ntmps94
  go_wp2_with fail
  obtain ⟨V, hV, z0, z1, BW, sW⟩ := fframe2 w 25 48 (B : Int) (P : Int) (W : Int) neg A n c e
  rw [hV]
  clear hV sW
  replace hT := hT.on BW
  replace h := h.on BW
  refine (dplain_as h hs hT HD.out).mono ?_
  rintro en w1 ⟨V_rd, v_rd, rfl, rd, b⟩
  replace z0 := z0.on b
  replace z1 := z1.on b
  replace hT := hT.on b
  replace h := h.on b
  replace BW := Below.step BW b
  clear b
  obtain ⟨z0c0, z0c1, z0c2, z0f0, z0f1, z0f2, z0l⟩ := z0.cells
  obtain ⟨z1c0, z1c1, z1c2, z1f0, z1f1, z1f2, z1l⟩ := z1.cells
  go_wp2_with fail
  clear z0c0 z0c1 z0c2 z0f0 z0f1 z0f2 z0l z1c0 z1c1 z1c2 z1f0 z1f1 z1f2 z1l
  obtain ⟨w2, e_w2⟩ : ∃ w', w1.alloc (dob false V_rd v_rd v_rd 0 48) = w' := ⟨_, rfl⟩
  have b : Below w1.heap.size w1 w2 := e_w2 ▸ below_lit _ _
  have hs_w2 : w2.heap.size = w1.heap.size + 1 := e_w2 ▸ size_lit w1 _ rfl
  have zp : DB w2 w1.heap.size 48 false V_rd v_rd v_rd 0 := e_w2 ▸ DB.made w1 rfl 48 false V_rd v_rd v_rd 0
  rw [e_w2]
  clear e_w2
  replace z0 := z0.on b
  replace z1 := z1.on b
  replace hT := hT.on b
  replace h := h.on b
  replace rd := rd.on b
  replace BW := Below.step BW b
  clear b
  refine (dtop_as h hs hT HP.out).mono ?_
  rintro en w3 ⟨rfl, b⟩
  replace z0 := z0.on b
  replace z1 := z1.on b
  replace hT := hT.on b
  replace h := h.on b
  replace rd := rd.on b
  replace zp := zp.on b
  replace BW := Below.step BW b
  clear b
  obtain ⟨z0c0, z0c1, z0c2, z0f0, z0f1, z0f2, z0l⟩ := z0.cells
  obtain ⟨z1c0, z1c1, z1c2, z1f0, z1f1, z1f2, z1l⟩ := z1.cells
  obtain ⟨zpc0, zpc1, zpc2, zpf0, zpf1, zpf2, zpl⟩ := zp.cells
  go_wp2_with fail
  refine (HN.out _).mono ?_
  rintro en w4 ⟨rfl, b⟩
  clear z0c0 z0c1 z0c2 z0f0 z0f1 z0f2 z0l z1c0 z1c1 z1c2 z1f0 z1f1 z1f2 z1l zpc0 zpc1 zpc2 zpf0 zpf1 zpf2 zpl
  replace z0 := z0.on b
  replace z1 := z1.on b
  replace hT := hT.on b
  replace h := h.on b
  replace rd := rd.on b
  replace zp := zp.on b
  replace BW := Below.step BW b
  clear b
  obtain ⟨z0c0, z0c1, z0c2, z0f0, z0f1, z0f2, z0l⟩ := z0.cells
  go_wp2_with fail
  refine bodyPost_ret (v := .tuple #[.int .u64 0, .int .i64 0]) (by simp [results, Tryz.results94, go_sem]) rfl ⟨rfl, BW⟩
set_option maxHeartbeats 1000000 in
theorem put_none1 {B P W M E H : Nat} {low : Int} (hf : Fm B P W M E H low) {A : Option Addr} {n c x : Nat} {neg : Bool} {e : Int} {w : World} (h : Arg w A n c x) (hs : n ≤ 30000) (hT : Tab w) (hm : D.may ⟨neg, x, e⟩ = true) (h0 : x ≠ 0) (hk : (D.pl ⟨neg, x, e⟩).e < plcS P low ⟨neg, x, e⟩) :
    Calls Tryz.prog 94 #[.agg #[.int .i64 (B : Int), .int .i64 (P : Int), .int .i64 (W : Int)], .agg #[.bool neg, .slice A n c, .int .i64 e]] w fun en w' => en = .returned (.tuple #[.int .u64 0, .int .i64 10]) ∧ Below w.heap.size w w' := by
  obtain ⟨b1, b2, b3, b4, b5, b6, b7, b8, b9, b10, b11, b12, b13, b14, b15⟩ := hf.bd
  obtain ⟨m1, m2, m3⟩ := (D.may_iff _).1 hm
  simp only at m1 m2 m3
  obtain ⟨dn, dx, de, hd⟩ : ∃ dn dx de, D.pl ⟨neg, x, e⟩ = ⟨dn, dx, de⟩ := ⟨_, _, _, rfl⟩
  obtain ⟨p1, p2, p3, p4, p5⟩ := pl_bounds hm
  rw [hd] at p1 p2 p3 p4
  simp only at p1 p2 p3 p4
  clear p5
  have HD : Hid (plainS ⟨neg, x, e⟩ = (⟨dn, dx, de⟩, 0)) := by unfold plainS; rw [hm, if_pos rfl, hd]; exact Lib.hid rfl
  obtain ⟨t, ht⟩ : ∃ t : Int, (blen x : Int) - 1 + e = t := ⟨_, rfl⟩
  have HP : Hid (topS ⟨neg, x, e⟩ = (t, 0)) := by unfold topS; rw [hm, if_pos rfl, if_neg h0, ← ht]; exact Lib.hid rfl
  have htd : (blen dx : Int) - 1 + de = t := by
    have h1 := D.pl_pos (d := ⟨neg, x, e⟩) h0
    rw [hd] at h1
    simp only [D.mk.injEq] at h1
    obtain ⟨_, h2, h3⟩ := h1
    have h4 := blen_div_tz h0
    rw [h2, h3]
    omega
  obtain ⟨p, hp⟩ : ∃ p : Int, max (t - ((P : Int) - 1)) low = p := ⟨_, rfl⟩
  have HL := Lib.hid (fun (V : World) => flow_as hf low rfl V)
  have HI := Lib.hid (fun (V : World) => highest_as hf (low + (E : Int) - 2) rfl V)
  have q1 : IntKind.i64.wrap ((P : Int) - 1) = (P : Int) - 1 := IntWalk.i64_in _ (by omega)
  have q2 : IntKind.i64.wrap (t - ((P : Int) - 1)) = t - ((P : Int) - 1) := IntWalk.i64_in _ (by omega)
  unfold plcS at hk
  rw [hd, ht, hp] at hk
  simp only at hk
  have d1 : decide (de < p) = true := decide_eq_true hk
  clear hm hf b1 hd ht hk h0
  go_enter Tryz.func94, Tryz.ntmps94
  go_wp2_with fail
  obtain ⟨V, hV, z0, z1, BW, sW⟩ := fframe2 w 25 48 (B : Int) (P : Int) (W : Int) neg A n c e
  rw [hV]
  clear hV sW
  replace hT := hT.on BW
  replace h := h.on BW
  refine (dplain_as h hs hT HD.out).mono ?_
  rintro en w1 ⟨V_rd, v_rd, rfl, rd, b⟩
  replace z0 := z0.on b
  replace z1 := z1.on b
  replace hT := hT.on b
  replace h := h.on b
  replace BW := Below.step BW b
  clear b
  obtain ⟨z0c0, z0c1, z0c2, z0f0, z0f1, z0f2, z0l⟩ := z0.cells
  obtain ⟨z1c0, z1c1, z1c2, z1f0, z1f1, z1f2, z1l⟩ := z1.cells
  go_wp2_with fail
  clear z0c0 z0c1 z0c2 z0f0 z0f1 z0f2 z0l z1c0 z1c1 z1c2 z1f0 z1f1 z1f2 z1l
  obtain ⟨w2, e_w2⟩ : ∃ w', w1.alloc (dob dn V_rd v_rd v_rd de 48) = w' := ⟨_, rfl⟩
  have b : Below w1.heap.size w1 w2 := e_w2 ▸ below_lit _ _
  have hs_w2 : w2.heap.size = w1.heap.size + 1 := e_w2 ▸ size_lit w1 _ rfl
  have zp : DB w2 w1.heap.size 48 dn V_rd v_rd v_rd de := e_w2 ▸ DB.made w1 rfl 48 dn V_rd v_rd v_rd de
  rw [e_w2]
  clear e_w2
  replace z0 := z0.on b
  replace z1 := z1.on b
  replace hT := hT.on b
  replace h := h.on b
  replace rd := rd.on b
  replace BW := Below.step BW b
  clear b
  refine (dtop_as h hs hT HP.out).mono ?_
  rintro en w3 ⟨rfl, b⟩
  replace z0 := z0.on b
  replace z1 := z1.on b
  replace hT := hT.on b
  replace h := h.on b
  replace rd := rd.on b
  replace zp := zp.on b
  replace BW := Below.step BW b
  clear b
  obtain ⟨z0c0, z0c1, z0c2, z0f0, z0f1, z0f2, z0l⟩ := z0.cells
  obtain ⟨z1c0, z1c1, z1c2, z1f0, z1f1, z1f2, z1l⟩ := z1.cells
  obtain ⟨zpc0, zpc1, zpc2, zpf0, zpf1, zpf2, zpl⟩ := zp.cells
  go_wp2_with fail
  clear z0c0 z0c1 z0c2 z0f0 z0f1 z0f2 z0l z1c0 z1c1 z1c2 z1f0 z1f1 z1f2 z1l zpc0 zpc1 zpc2 zpf0 zpf1 zpf2 zpl
  replace z0 := z0.on ((Below.refl _ _).drew : Below w3.heap.size w3 w3.drew)
  replace z1 := z1.on ((Below.refl _ _).drew : Below w3.heap.size w3 w3.drew)
  replace hT := hT.on ((Below.refl _ _).drew : Below w3.heap.size w3 w3.drew)
  replace h := h.on ((Below.refl _ _).drew : Below w3.heap.size w3 w3.drew)
  replace rd := rd.on ((Below.refl _ _).drew : Below w3.heap.size w3 w3.drew)
  replace zp := zp.on ((Below.refl _ _).drew : Below w3.heap.size w3 w3.drew)
  replace BW := Lib.hid (Below.step BW ((Below.refl _ _).drew : Below w3.heap.size w3 w3.drew))
  go_region_held3 (fun w' => w'.cell? ⟨w.heap.size, 0, none⟩ = some (.int .i64 (B : Int)) ∧ w'.cell? ⟨w.heap.size, 1, none⟩ = some (.int .i64 (P : Int)) ∧ w'.cell? ⟨w.heap.size, 2, none⟩ = some (.int .i64 (W : Int)))
    ((exact ⟨z0.cells.1, z0.cells.2.1, z0.cells.2.2.1⟩))
    (first
      | (go_at_call 85
         (with_reducible refine (HL.out _).mono ?_)
         rintro en w4 ⟨rfl, b⟩
         replace z0 := z0.on b
         replace z1 := z1.on b
         replace hT := hT.on b
         replace h := h.on b
         replace rd := rd.on b
         replace zp := zp.on b
         replace BW := Lib.hid (Below.step BW.out b)
         clear b))
  replace BW := BW.out
  obtain ⟨z0c0, z0c1, z0c2, z0f0, z0f1, z0f2, z0l⟩ := z0.cells
  obtain ⟨z1c0, z1c1, z1c2, z1f0, z1f1, z1f2, z1l⟩ := z1.cells
  obtain ⟨zpc0, zpc1, zpc2, zpf0, zpf1, zpf2, zpl⟩ := zp.cells
  go_wp2_with fail
  refine bodyPost_ret (v := .tuple #[.int .u64 0, .int .i64 10]) (by simp [results, Tryz.results94, go_sem]) rfl ⟨rfl, BW⟩
set_option maxHeartbeats 1000000 in
theorem put_none2 {B P W M E H : Nat} {low : Int} (hf : Fm B P W M E H low) {A : Option Addr} {n c x : Nat} {neg : Bool} {e : Int} {w : World} (h : Arg w A n c x) (hs : n ≤ 30000) (hT : Tab w) (hm : D.may ⟨neg, x, e⟩ = true) (h0 : x ≠ 0) (hk : ¬ (D.pl ⟨neg, x, e⟩).e < plcS P low ⟨neg, x, e⟩) (hk2 : low + (E : Int) - 2 < plcS P low ⟨neg, x, e⟩) :
    Calls Tryz.prog 94 #[.agg #[.int .i64 (B : Int), .int .i64 (P : Int), .int .i64 (W : Int)], .agg #[.bool neg, .slice A n c, .int .i64 e]] w fun en w' => en = .returned (.tuple #[.int .u64 0, .int .i64 10]) ∧ Below w.heap.size w w' := by
  obtain ⟨b1, b2, b3, b4, b5, b6, b7, b8, b9, b10, b11, b12, b13, b14, b15⟩ := hf.bd
  obtain ⟨m1, m2, m3⟩ := (D.may_iff _).1 hm
  simp only at m1 m2 m3
  obtain ⟨dn, dx, de, hd⟩ : ∃ dn dx de, D.pl ⟨neg, x, e⟩ = ⟨dn, dx, de⟩ := ⟨_, _, _, rfl⟩
  obtain ⟨p1, p2, p3, p4, p5⟩ := pl_bounds hm
  rw [hd] at p1 p2 p3 p4
  simp only at p1 p2 p3 p4
  clear p5
  have HD : Hid (plainS ⟨neg, x, e⟩ = (⟨dn, dx, de⟩, 0)) := by unfold plainS; rw [hm, if_pos rfl, hd]; exact Lib.hid rfl
  obtain ⟨t, ht⟩ : ∃ t : Int, (blen x : Int) - 1 + e = t := ⟨_, rfl⟩
  have HP : Hid (topS ⟨neg, x, e⟩ = (t, 0)) := by unfold topS; rw [hm, if_pos rfl, if_neg h0, ← ht]; exact Lib.hid rfl
  have htd : (blen dx : Int) - 1 + de = t := by
    have h1 := D.pl_pos (d := ⟨neg, x, e⟩) h0
    rw [hd] at h1
    simp only [D.mk.injEq] at h1
    obtain ⟨_, h2, h3⟩ := h1
    have h4 := blen_div_tz h0
    rw [h2, h3]
    omega
  obtain ⟨p, hp⟩ : ∃ p : Int, max (t - ((P : Int) - 1)) low = p := ⟨_, rfl⟩
  have HL := Lib.hid (fun (V : World) => flow_as hf low rfl V)
  have HI := Lib.hid (fun (V : World) => highest_as hf (low + (E : Int) - 2) rfl V)
  have q1 : IntKind.i64.wrap ((P : Int) - 1) = (P : Int) - 1 := IntWalk.i64_in _ (by omega)
  have q2 : IntKind.i64.wrap (t - ((P : Int) - 1)) = t - ((P : Int) - 1) := IntWalk.i64_in _ (by omega)
  unfold plcS at hk
  rw [hd, ht, hp] at hk
  simp only at hk
  unfold plcS at hk2
  rw [ht, hp] at hk2
  have d1 : decide (de < p) = false := decide_eq_false hk
  have d2 : decide (low + (E : Int) - 2 < p) = true := decide_eq_true hk2
  clear hm hf b1 hd ht hk hk2 h0
  go_enter Tryz.func94, Tryz.ntmps94
  go_wp2_with fail
  obtain ⟨V, hV, z0, z1, BW, sW⟩ := fframe2 w 25 48 (B : Int) (P : Int) (W : Int) neg A n c e
  rw [hV]
  clear hV sW
  replace hT := hT.on BW
  replace h := h.on BW
  refine (dplain_as h hs hT HD.out).mono ?_
  rintro en w1 ⟨V_rd, v_rd, rfl, rd, b⟩
  replace z0 := z0.on b
  replace z1 := z1.on b
  replace hT := hT.on b
  replace h := h.on b
  replace BW := Below.step BW b
  clear b
  obtain ⟨z0c0, z0c1, z0c2, z0f0, z0f1, z0f2, z0l⟩ := z0.cells
  obtain ⟨z1c0, z1c1, z1c2, z1f0, z1f1, z1f2, z1l⟩ := z1.cells
  go_wp2_with fail
  clear z0c0 z0c1 z0c2 z0f0 z0f1 z0f2 z0l z1c0 z1c1 z1c2 z1f0 z1f1 z1f2 z1l
  obtain ⟨w2, e_w2⟩ : ∃ w', w1.alloc (dob dn V_rd v_rd v_rd de 48) = w' := ⟨_, rfl⟩
  have b : Below w1.heap.size w1 w2 := e_w2 ▸ below_lit _ _
  have hs_w2 : w2.heap.size = w1.heap.size + 1 := e_w2 ▸ size_lit w1 _ rfl
  have zp : DB w2 w1.heap.size 48 dn V_rd v_rd v_rd de := e_w2 ▸ DB.made w1 rfl 48 dn V_rd v_rd v_rd de
  rw [e_w2]
  clear e_w2
  replace z0 := z0.on b
  replace z1 := z1.on b
  replace hT := hT.on b
  replace h := h.on b
  replace rd := rd.on b
  replace BW := Below.step BW b
  clear b
  refine (dtop_as h hs hT HP.out).mono ?_
  rintro en w3 ⟨rfl, b⟩
  replace z0 := z0.on b
  replace z1 := z1.on b
  replace hT := hT.on b
  replace h := h.on b
  replace rd := rd.on b
  replace zp := zp.on b
  replace BW := Below.step BW b
  clear b
  obtain ⟨z0c0, z0c1, z0c2, z0f0, z0f1, z0f2, z0l⟩ := z0.cells
  obtain ⟨z1c0, z1c1, z1c2, z1f0, z1f1, z1f2, z1l⟩ := z1.cells
  obtain ⟨zpc0, zpc1, zpc2, zpf0, zpf1, zpf2, zpl⟩ := zp.cells
  go_wp2_with fail
  clear z0c0 z0c1 z0c2 z0f0 z0f1 z0f2 z0l z1c0 z1c1 z1c2 z1f0 z1f1 z1f2 z1l zpc0 zpc1 zpc2 zpf0 zpf1 zpf2 zpl
  replace z0 := z0.on ((Below.refl _ _).drew : Below w3.heap.size w3 w3.drew)
  replace z1 := z1.on ((Below.refl _ _).drew : Below w3.heap.size w3 w3.drew)
  replace hT := hT.on ((Below.refl _ _).drew : Below w3.heap.size w3 w3.drew)
  replace h := h.on ((Below.refl _ _).drew : Below w3.heap.size w3 w3.drew)
  replace rd := rd.on ((Below.refl _ _).drew : Below w3.heap.size w3 w3.drew)
  replace zp := zp.on ((Below.refl _ _).drew : Below w3.heap.size w3 w3.drew)
  replace BW := Lib.hid (Below.step BW ((Below.refl _ _).drew : Below w3.heap.size w3 w3.drew))
  go_region_held3 (fun w' => w'.cell? ⟨w.heap.size, 0, none⟩ = some (.int .i64 (B : Int)) ∧ w'.cell? ⟨w.heap.size, 1, none⟩ = some (.int .i64 (P : Int)) ∧ w'.cell? ⟨w.heap.size, 2, none⟩ = some (.int .i64 (W : Int)))
    ((exact ⟨z0.cells.1, z0.cells.2.1, z0.cells.2.2.1⟩))
    (first
      | (go_at_call 85
         (with_reducible refine (HL.out _).mono ?_)
         rintro en w4 ⟨rfl, b⟩
         replace z0 := z0.on b
         replace z1 := z1.on b
         replace hT := hT.on b
         replace h := h.on b
         replace rd := rd.on b
         replace zp := zp.on b
         replace BW := Lib.hid (Below.step BW.out b)
         clear b))
  replace BW := BW.out
  obtain ⟨z0c0, z0c1, z0c2, z0f0, z0f1, z0f2, z0l⟩ := z0.cells
  obtain ⟨z1c0, z1c1, z1c2, z1f0, z1f1, z1f2, z1l⟩ := z1.cells
  obtain ⟨zpc0, zpc1, zpc2, zpf0, zpf1, zpf2, zpl⟩ := zp.cells
  go_wp2_with fail
  refine (HI.out _).mono ?_
  rintro en w5 ⟨rfl, b⟩
  clear z0c0 z0c1 z0c2 z0f0 z0f1 z0f2 z0l z1c0 z1c1 z1c2 z1f0 z1f1 z1f2 z1l zpc0 zpc1 zpc2 zpf0 zpf1 zpf2 zpl
  replace z0 := z0.on b
  replace z1 := z1.on b
  replace hT := hT.on b
  replace h := h.on b
  replace rd := rd.on b
  replace zp := zp.on b
  replace BW := Below.step BW b
  clear b
  obtain ⟨z0c0, z0c1, z0c2, z0f0, z0f1, z0f2, z0l⟩ := z0.cells
  go_wp2_with fail
  refine bodyPost_ret (v := .tuple #[.int .u64 0, .int .i64 10]) (by simp [results, Tryz.results94, go_sem]) rfl ⟨rfl, BW⟩
theorem fleft_as {A : Option Addr} {n c x : Nat} {w : World} (h : Arg w A n c x) (hs : n ≤ 1000000) (i : Nat) (hfit : blen x + i ≤ 16384) {y : Nat} (hy : x * 2 ^ i = y) :
    Calls Tryz.prog 107 #[.slice A n c, .int .i64 (i : Int)] w fun e w' => ∃ A k, e = .returned (.tuple #[.slice A k k, .int .i64 0]) ∧ Res w' A k y ∧ Below w.heap.size w w' :=
  (left_fit h hs i hfit).mono fun e w' ⟨A, k, h1, h2, _, h3⟩ => ⟨A, k, h1, hy ▸ h2, h3⟩
set_option maxHeartbeats 1000000 in
theorem put_ok {B P W M E H : Nat} {low : Int} (hf : Fm B P W M E H low) {A : Option Addr} {n c x : Nat} {neg : Bool} {e : Int} {w : World} (h : Arg w A n c x) (hs : n ≤ 30000) (hT : Tab w) (hm : D.may ⟨neg, x, e⟩ = true) (h0 : x ≠ 0) (hk : ¬ (D.pl ⟨neg, x, e⟩).e < plcS P low ⟨neg, x, e⟩) (hk2 : ¬ low + (E : Int) - 2 < plcS P low ⟨neg, x, e⟩)
    (v : Nat) (hv : sgn H (D.pl ⟨neg, x, e⟩).neg ((plcS P low ⟨neg, x, e⟩ - low).toNat * M + (D.pl ⟨neg, x, e⟩).x * 2 ^ ((D.pl ⟨neg, x, e⟩).e - plcS P low ⟨neg, x, e⟩).toNat) = v) :
    Calls Tryz.prog 94 #[.agg #[.int .i64 (B : Int), .int .i64 (P : Int), .int .i64 (W : Int)], .agg #[.bool neg, .slice A n c, .int .i64 e]] w fun en w' => en = .returned (.tuple #[.int .u64 (v : Int), .int .i64 0]) ∧ Below w.heap.size w w' := by
  obtain ⟨b1, b2, b3, b4, b5, b6, b7, b8, b9, b10, b11, b12, b13, b14, b15⟩ := hf.bd
  obtain ⟨m1, m2, m3⟩ := (D.may_iff _).1 hm
  simp only at m1 m2 m3
  obtain ⟨dn, dx, de, hd⟩ : ∃ dn dx de, D.pl ⟨neg, x, e⟩ = ⟨dn, dx, de⟩ := ⟨_, _, _, rfl⟩
  obtain ⟨p1, p2, p3, p4, p5⟩ := pl_bounds hm
  rw [hd] at p1 p2 p3 p4
  simp only at p1 p2 p3 p4
  clear p5
  have HD : Hid (plainS ⟨neg, x, e⟩ = (⟨dn, dx, de⟩, 0)) := by unfold plainS; rw [hm, if_pos rfl, hd]; exact Lib.hid rfl
  obtain ⟨t, ht⟩ : ∃ t : Int, (blen x : Int) - 1 + e = t := ⟨_, rfl⟩
  have HP : Hid (topS ⟨neg, x, e⟩ = (t, 0)) := by unfold topS; rw [hm, if_pos rfl, if_neg h0, ← ht]; exact Lib.hid rfl
  have htd : (blen dx : Int) - 1 + de = t := by
    have h1 := D.pl_pos (d := ⟨neg, x, e⟩) h0
    rw [hd] at h1
    simp only [D.mk.injEq] at h1
    obtain ⟨_, h2, h3⟩ := h1
    have h4 := blen_div_tz h0
    rw [h2, h3]
    omega
  obtain ⟨p, hp⟩ : ∃ p : Int, max (t - ((P : Int) - 1)) low = p := ⟨_, rfl⟩
  have HL := Lib.hid (fun (V : World) => flow_as hf low rfl V)
  have HI := Lib.hid (fun (V : World) => highest_as hf (low + (E : Int) - 2) rfl V)
  have q1 : IntKind.i64.wrap ((P : Int) - 1) = (P : Int) - 1 := IntWalk.i64_in _ (by omega)
  have q2 : IntKind.i64.wrap (t - ((P : Int) - 1)) = t - ((P : Int) - 1) := IntWalk.i64_in _ (by omega)
  unfold plcS at hk
  rw [hd, ht, hp] at hk
  simp only at hk
  unfold plcS at hk2 hv
  rw [ht, hp] at hk2
  rw [hd, ht, hp] at hv
  simp only at hv
  obtain ⟨i, hi⟩ := Int.eq_ofNat_of_zero_le (show 0 ≤ de - p by omega)
  obtain ⟨k, hk3⟩ := Int.eq_ofNat_of_zero_le (show 0 ≤ p - low by omega)
  rw [hi, hk3, Int.toNat_natCast, Int.toNat_natCast] at hv
  obtain ⟨y, hy⟩ : ∃ y, dx * 2 ^ i = y := ⟨_, rfl⟩
  rw [hy] at hv
  have hfit : blen dx + i ≤ 16384 := by omega
  have hy2 : y < 2 * M := by
    rw [← hf.pP, ← hy, Nat.mul_comm 2, ← Nat.pow_succ, show (P - 1).succ = P by omega]
    have h1 := (blen_le dx (blen dx)).1 (Nat.le_refl _)
    have h2 : dx * 2 ^ i < 2 ^ blen dx * 2 ^ i := Nat.mul_lt_mul_of_pos_right h1 (Nat.two_pow_pos _)
    rw [← Nat.pow_add] at h2
    exact Nat.lt_of_lt_of_le h2 (Nat.pow_le_pow_right (by omega) (by omega))
  have hn3 : y < 18446744073709551616 := by omega
  have HYY := Lib.hid hy
  obtain ⟨e1, e2⟩ := hf.hlf
  have e3 : M * E + M = H := by rw [← e1, Nat.mul_add, Nat.mul_one]
  have e4 : k * M ≤ M * (E - 2) := by rw [Nat.mul_comm]; exact Nat.mul_le_mul_left _ (by omega)
  have e5 : M * (E - 2) + 2 * M = M * E := by rw [Nat.mul_comm 2 M, ← Nat.mul_add]; congr 1; omega
  obtain ⟨s, hs1⟩ : ∃ s, k * M = s := ⟨_, rfl⟩
  obtain ⟨r, hr⟩ : ∃ r, s + y = r := ⟨_, rfl⟩
  rw [hs1] at hv e4
  rw [hr] at hv
  have HG := Lib.hid (fun (V : World) => signed_as hf dn r v (by omega) hv V)
  have q3 : IntKind.i64.wrap (de - p) = (i : Int) := by rw [IntWalk.i64_in _ (by omega)]; exact hi
  have q4 : IntKind.i64.wrap (p - low) = (k : Int) := by rw [IntWalk.i64_in _ (by omega)]; exact hk3
  have q5 : IntKind.u64.wrap (k : Int) = (k : Int) := wrap64_nat k (by omega)
  have q6 : IntKind.u64.wrap ((P : Int) - 1) = (P : Int) - 1 := by rw [IntKind.wrap_u64]; omega
  have q7 : 0 ≤ (P : Int) - 1 := by omega
  have q8 : ((P : Int) - 1).toNat = P - 1 := by omega
  have q9 : IntKind.u64.wrap ((k : Int) * 2 ^ (P - 1)) = (s : Int) := by
    rw [← two_cast, hf.pP, ← Int.natCast_mul, hs1]; exact wrap64_nat s (by omega)
  have q10 : IntKind.u64.wrap ((s : Int) + (y : Int)) = (r : Int) := by
    rw [← Int.natCast_add, hr]; exact wrap64_nat r (by omega)
  have d1 : decide (de < p) = false := decide_eq_false hk
  have d2 : decide (low + (E : Int) - 2 < p) = false := decide_eq_false hk2
  clear hm hf b1 hd ht hk hk2 h0 hv hi hk3 hy hy2 e1 e2 e3 e4 e5 hs1 hr
  go_enter Tryz.func94, Tryz.ntmps94
  go_wp2_with fail
  obtain ⟨V, hV, z0, z1, BW, sW⟩ := fframe2 w 25 48 (B : Int) (P : Int) (W : Int) neg A n c e
  rw [hV]
  clear hV sW
  replace hT := hT.on BW
  replace h := h.on BW
  refine (dplain_as h hs hT HD.out).mono ?_
  rintro en w1 ⟨V_rd, v_rd, rfl, rd, b⟩
  replace z0 := z0.on b
  replace z1 := z1.on b
  replace hT := hT.on b
  replace h := h.on b
  replace BW := Below.step BW b
  clear b
  obtain ⟨z0c0, z0c1, z0c2, z0f0, z0f1, z0f2, z0l⟩ := z0.cells
  obtain ⟨z1c0, z1c1, z1c2, z1f0, z1f1, z1f2, z1l⟩ := z1.cells
  go_wp2_with fail
  clear z0c0 z0c1 z0c2 z0f0 z0f1 z0f2 z0l z1c0 z1c1 z1c2 z1f0 z1f1 z1f2 z1l
  obtain ⟨w2, e_w2⟩ : ∃ w', w1.alloc (dob dn V_rd v_rd v_rd de 48) = w' := ⟨_, rfl⟩
  have b : Below w1.heap.size w1 w2 := e_w2 ▸ below_lit _ _
  have hs_w2 : w2.heap.size = w1.heap.size + 1 := e_w2 ▸ size_lit w1 _ rfl
  have zp : DB w2 w1.heap.size 48 dn V_rd v_rd v_rd de := e_w2 ▸ DB.made w1 rfl 48 dn V_rd v_rd v_rd de
  rw [e_w2]
  clear e_w2
  replace z0 := z0.on b
  replace z1 := z1.on b
  replace hT := hT.on b
  replace h := h.on b
  replace rd := rd.on b
  replace BW := Below.step BW b
  clear b
  refine (dtop_as h hs hT HP.out).mono ?_
  rintro en w3 ⟨rfl, b⟩
  replace z0 := z0.on b
  replace z1 := z1.on b
  replace hT := hT.on b
  replace h := h.on b
  replace rd := rd.on b
  replace zp := zp.on b
  replace BW := Below.step BW b
  clear b
  obtain ⟨z0c0, z0c1, z0c2, z0f0, z0f1, z0f2, z0l⟩ := z0.cells
  obtain ⟨z1c0, z1c1, z1c2, z1f0, z1f1, z1f2, z1l⟩ := z1.cells
  obtain ⟨zpc0, zpc1, zpc2, zpf0, zpf1, zpf2, zpl⟩ := zp.cells
  go_wp2_with fail
  clear z0c0 z0c1 z0c2 z0f0 z0f1 z0f2 z0l z1c0 z1c1 z1c2 z1f0 z1f1 z1f2 z1l zpc0 zpc1 zpc2 zpf0 zpf1 zpf2 zpl
  replace z0 := z0.on ((Below.refl _ _).drew : Below w3.heap.size w3 w3.drew)
  replace z1 := z1.on ((Below.refl _ _).drew : Below w3.heap.size w3 w3.drew)
  replace hT := hT.on ((Below.refl _ _).drew : Below w3.heap.size w3 w3.drew)
  replace h := h.on ((Below.refl _ _).drew : Below w3.heap.size w3 w3.drew)
  replace rd := rd.on ((Below.refl _ _).drew : Below w3.heap.size w3 w3.drew)
  replace zp := zp.on ((Below.refl _ _).drew : Below w3.heap.size w3 w3.drew)
  replace BW := Lib.hid (Below.step BW ((Below.refl _ _).drew : Below w3.heap.size w3 w3.drew))
  go_region_held3 (fun w' => w'.cell? ⟨w.heap.size, 0, none⟩ = some (.int .i64 (B : Int)) ∧ w'.cell? ⟨w.heap.size, 1, none⟩ = some (.int .i64 (P : Int)) ∧ w'.cell? ⟨w.heap.size, 2, none⟩ = some (.int .i64 (W : Int)))
    ((exact ⟨z0.cells.1, z0.cells.2.1, z0.cells.2.2.1⟩))
    (first
      | (go_at_call 85
         (with_reducible refine (HL.out _).mono ?_)
         rintro en w4 ⟨rfl, b⟩
         replace z0 := z0.on b
         replace z1 := z1.on b
         replace hT := hT.on b
         replace h := h.on b
         replace rd := rd.on b
         replace zp := zp.on b
         replace BW := Lib.hid (Below.step BW.out b)
         clear b))
  replace BW := BW.out
  obtain ⟨z0c0, z0c1, z0c2, z0f0, z0f1, z0f2, z0l⟩ := z0.cells
  obtain ⟨z1c0, z1c1, z1c2, z1f0, z1f1, z1f2, z1l⟩ := z1.cells
  obtain ⟨zpc0, zpc1, zpc2, zpf0, zpf1, zpf2, zpl⟩ := zp.cells
  go_wp2_with fail
  refine (HI.out _).mono ?_
  rintro en w5 ⟨rfl, b⟩
  clear z0c0 z0c1 z0c2 z0f0 z0f1 z0f2 z0l z1c0 z1c1 z1c2 z1f0 z1f1 z1f2 z1l zpc0 zpc1 zpc2 zpf0 zpf1 zpf2 zpl
  replace z0 := z0.on b
  replace z1 := z1.on b
  replace hT := hT.on b
  replace h := h.on b
  replace rd := rd.on b
  replace zp := zp.on b
  replace BW := Below.step BW b
  clear b
  obtain ⟨z0c0, z0c1, z0c2, z0f0, z0f1, z0f2, z0l⟩ := z0.cells
  obtain ⟨zpc0, zpc1, zpc2, zpf0, zpf1, zpf2, zpl⟩ := zp.cells
  go_wp2_with fail
  have lrd := res_n_le rd (k := 128) p1
  refine (fleft_as (rd.arg (by omega)) (by omega) i hfit HYY.out).mono ?_
  rintro en w6 ⟨V_rl, v_rl, rfl, rl, b⟩
  clear z0c0 z0c1 z0c2 z0f0 z0f1 z0f2 z0l zpc0 zpc1 zpc2 zpf0 zpf1 zpf2 zpl
  replace z0 := z0.on b
  replace z1 := z1.on b
  replace hT := hT.on b
  replace h := h.on b
  replace rd := rd.on b
  replace zp := zp.on b
  replace BW := Below.step BW b
  clear b
  have ll := rl.le2 hn3
  obtain ⟨z0c0, z0c1, z0c2, z0f0, z0f1, z0f2, z0l⟩ := z0.cells
  obtain ⟨zpc0, zpc1, zpc2, zpf0, zpf1, zpf2, zpl⟩ := zp.cells
  go_wp2_with fail
  refine (word_any (rl.arg (by omega)) (by omega) hn3).mono ?_
  rintro en w' ⟨rfl, rfl⟩
  go_wp2_with fail
  clear z0c0 z0c1 z0c2 z0f0 z0f1 z0f2 z0l zpc0 zpc1 zpc2 zpf0 zpf1 zpf2 zpl
  replace z0 := z0.on ((Below.refl _ _).drew : Below w6.heap.size w6 w6.drew)
  replace z1 := z1.on ((Below.refl _ _).drew : Below w6.heap.size w6 w6.drew)
  replace hT := hT.on ((Below.refl _ _).drew : Below w6.heap.size w6 w6.drew)
  replace h := h.on ((Below.refl _ _).drew : Below w6.heap.size w6 w6.drew)
  replace rd := rd.on ((Below.refl _ _).drew : Below w6.heap.size w6 w6.drew)
  replace zp := zp.on ((Below.refl _ _).drew : Below w6.heap.size w6 w6.drew)
  replace rl := rl.on ((Below.refl _ _).drew : Below w6.heap.size w6 w6.drew)
  replace BW := Lib.hid (Below.step BW ((Below.refl _ _).drew : Below w6.heap.size w6 w6.drew))
  go_region_held3 (fun w' => w'.cell? ⟨w.heap.size, 0, none⟩ = some (.int .i64 (B : Int)) ∧ w'.cell? ⟨w.heap.size, 1, none⟩ = some (.int .i64 (P : Int)) ∧ w'.cell? ⟨w.heap.size, 2, none⟩ = some (.int .i64 (W : Int)) ∧ w'.cell? ⟨w1.heap.size, 0, none⟩ = some (.bool dn) ∧ w'.cell? ⟨w1.heap.size, 1, none⟩ = some (.slice V_rd v_rd v_rd) ∧ w'.cell? ⟨w1.heap.size, 2, none⟩ = some (.int .i64 de))
    ((exact ⟨z0.cells.1, z0.cells.2.1, z0.cells.2.2.1, zp.cells.1, zp.cells.2.1, zp.cells.2.2.1⟩))
    (first
      | (go_at_call 85
         (with_reducible refine (HL.out _).mono ?_)
         rintro en w7 ⟨rfl, b⟩
         replace z0 := z0.on b
         replace z1 := z1.on b
         replace hT := hT.on b
         replace h := h.on b
         replace rd := rd.on b
         replace zp := zp.on b
         replace rl := rl.on b
         replace BW := Lib.hid (Below.step BW.out b)
         clear b)
      | (go_at_call 74
         (with_reducible refine (HG.out _).mono ?_)
         rintro en w8 ⟨rfl, b⟩
         replace z0 := z0.on b
         replace z1 := z1.on b
         replace hT := hT.on b
         replace h := h.on b
         replace rd := rd.on b
         replace zp := zp.on b
         replace rl := rl.on b
         replace BW := Lib.hid (Below.step BW.out b)
         clear b))
  replace BW := BW.out
  go_wp2_with fail
  refine bodyPost_ret (v := .tuple #[.int .u64 v, .int .i64 0]) (by simp [results, Tryz.results94, go_sem]) rfl ⟨rfl, BW⟩
theorem put_as {B P W M E H : Nat} {low : Int} (hf : Fm B P W M E H low) {A : Option Addr} {n c x : Nat} {neg : Bool} {e : Int} {w : World} (h : Arg w A n c x) (hs : n ≤ 30000) (hT : Tab w) {v : Nat} {q : Int} (hr : putS P M E H low ⟨neg, x, e⟩ = (v, q)) :
    Calls Tryz.prog 94 #[.agg #[.int .i64 (B : Int), .int .i64 (P : Int), .int .i64 (W : Int)], .agg #[.bool neg, .slice A n c, .int .i64 e]] w fun en w' => en = .returned (.tuple #[.int .u64 (v : Int), .int .i64 q]) ∧ Below w.heap.size w w' := by
  unfold putS at hr
  obtain ⟨m, hm⟩ : ∃ m, D.may ⟨neg, x, e⟩ = m := ⟨_, rfl⟩
  rw [hm] at hr
  cases m
  · rw [if_neg (by decide)] at hr
    simp only [Prod.mk.injEq] at hr
    obtain ⟨rfl, rfl⟩ := hr
    exact put_range hf h hs hT hm
  · rw [if_pos rfl] at hr
    by_cases h0 : x = 0
    · rw [if_pos h0] at hr
      simp only [Prod.mk.injEq] at hr
      obtain ⟨rfl, rfl⟩ := hr
      exact put_zero hf h hs hT hm h0
    · rw [if_neg h0] at hr
      by_cases hk : (D.pl ⟨neg, x, e⟩).e < plcS P low ⟨neg, x, e⟩
      · rw [if_pos (.inl hk)] at hr
        simp only [Prod.mk.injEq] at hr
        obtain ⟨rfl, rfl⟩ := hr
        exact put_none1 hf h hs hT hm h0 hk
      · by_cases hk2 : low + (E : Int) - 2 < plcS P low ⟨neg, x, e⟩
        · rw [if_pos (.inr hk2)] at hr
          simp only [Prod.mk.injEq] at hr
          obtain ⟨rfl, rfl⟩ := hr
          exact put_none2 hf h hs hT hm h0 hk hk2
        · rw [if_neg (fun h => h.elim hk hk2)] at hr
          simp only [Prod.mk.injEq] at hr
          obtain ⟨hv, rfl⟩ := hr
          exact put_ok hf h hs hT hm h0 hk hk2 v hv
end Go.Proofs.YtpachoeignpcbaaGreatDoor
