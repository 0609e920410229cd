
/-
  The walks of the reference of layer 3: small functions.
-/
import Derived.Test.YtkjbejdeejpdoaaDoorFc
namespace Go.Proofs.YtkjbejdeejpdoaaDoor
open Go.RowKit
set_option linter.unusedVariables false

theorem power_as (k m : Nat) (hk : k ≤ 63) (hm : 2 ^ k = m) (n : Int) (hn : n = (k : Int)) (w : World) :
    Calls Tryd.prog 107 #[.int .i64 n] w fun e w' => e = .returned (.int .u64 (m : Int)) ∧ w = w' := by
  have HM := Lib.hid hm
  subst hn
  clear hm
  go_enter Tryd.func107, Tryd.ntmps107
  go_wp2_with fail
  go_loop [3, 4] (fun t iv => ∃ i y : Nat, i ≤ k ∧ y = 2 ^ i ∧ iv = .int .i64 i ∧ t = .int .u64 y) (fun _ iv => k - (intOf iv).toNat)
  case atStart => exact ⟨0, 1, by omega, rfl, rfl, rfl⟩
  case round =>
    obtain ⟨i, y, hi, hy, rfl, rfl⟩ := hrel
    have HY := Lib.hid hy
    by_cases h0 : i = k
    · clear hy
      subst h0
      have d : decide ((i : Int) < (i : Int)) = false := decide_eq_false (by omega)
      go_wp2_with fail
      go_ret
      exact ⟨ret_int (by rw [HY.out, HM.out]), rfl⟩
    · have h1 : y ≤ 4611686018427387904 := by
        have h2 : 2 ^ i ≤ 2 ^ 62 := Nat.pow_le_pow_right (by omega) (by omega)
        omega
      clear hy
      have d : decide ((i : Int) < (k : Int)) = true := decide_eq_true (by omega)
      go_wp2_with fail
      go_round
      case rel => exact ⟨i + 1, y * 2, by omega, by rw [HY.out, Nat.pow_succ], rfl, by go_num⟩
      case measure => simp [intOf]; omega
theorem power_b (k m : Nat) (hk : k ≤ 63) (hm : 2 ^ k = m) (n : Int) (hn : n = (k : Int)) (w : World) :
    Calls Tryd.prog 107 #[.int .i64 n] w fun e w' => e = .returned (.int .u64 (m : Int)) ∧ Below w.heap.size w w' :=
  (power_as k m hk hm n hn w).mono fun e w' ⟨h, hw⟩ => ⟨h, hw ▸ Below.refl _ _⟩
theorem rbias_as {B P W M E H : Nat} {low : Int} (hf : Fm B P W M E H low) (q : Int) (hq : 2 - (P : Int) - low = q) (w : World) :
    Calls Tryd.prog 100 #[.agg #[.int .i64 (B : Int), .int .i64 (P : Int), .int .i64 (W : Int)]] w fun e w' => e = .returned (.int .i64 q) ∧ Below w.heap.size w w' := by
  obtain ⟨b1, b2, b3, b4, b5, b6, b7, b8, b9, b10, b11, b12, b13, b14, b15⟩ := hf.bd
  obtain ⟨k, hk⟩ : ∃ k : Nat, 2 ^ (W - 1) = k + 1 ∧ (k : Int) = q := ⟨(2 - (P : Int) - low).toNat, by
    have := hf.pBias
    have h2 := Nat.two_pow_pos (W - 1)
    omega, by
    have := hf.pBias
    have h2 := Nat.two_pow_pos (W - 1)
    omega⟩
  have HK := Lib.hid hk.1
  obtain rfl := hk.2
  have hk3 : k ≤ 2000 := by
    have h1 : 2 ^ (W - 1) ≤ 2 ^ 10 := Nat.pow_le_pow_right (by omega) (by omega)
    omega
  have HF := Lib.hid (fun (V : World) => power_as (W - 1) (k + 1) (by omega) HK.out ((W : Int) - 1) (by omega) V)
  clear hq hf b1 hk
  go_enter Tryd.func100, Tryd.ntmps100
  go_wp2_with (refine (HF.out _).mono ?_; rintro e w' ⟨rfl, rfl⟩)
  go_ret
  exact ⟨ret_int (by omega), below_lit _ _⟩
theorem rlow_as {B P W M E H : Nat} {low : Int} (hf : Fm B P W M E H low) (q : Int) (hq : low = q) (w : World) :
    Calls Tryd.prog 77 #[.agg #[.int .i64 (B : Int), .int .i64 (P : Int), .int .i64 (W : Int)]] w fun e w' => e = .returned (.int .i64 q) ∧ Below w.heap.size w w' := by
  obtain ⟨b1, b2, b3, b4, b5, b6, b7, b8, b9, b10, b11, b12, b13, b14, b15⟩ := hf.bd
  subst hq
  obtain ⟨i, hi⟩ : ∃ i : Int, 2 - (P : Int) - low = i := ⟨_, rfl⟩
  have HF := Lib.hid (fun (V : World) => rbias_as hf i hi V)
  have q1 : IntKind.i64.wrap (2 - (P : Int)) = 2 - (P : Int) := IntWalk.i64_in _ (by omega)
  have q2 : IntKind.i64.wrap (2 - (P : Int) - i) = low := by rw [IntWalk.i64_in _ (by omega)]; omega
  clear hi hf b1
  go_enter Tryd.func77, Tryd.ntmps77
  go_wp2_with fail
  obtain ⟨V, hV, z0, BW, sW⟩ := fframe1 w 32 (B : Int) (P : Int) (W : Int)
  rw [hV]
  clear hV
  have kb : FB V.drew w.heap.size 32 (B : Int) (P : Int) (W : Int) := z0.on ((Below.refl _ _).drew)
  have HB := Lib.hid (Below.step BW ((Below.refl _ _).drew))
  clear z0 BW
  go_region_held3 (fun w' => w'.cell? ⟨w.heap.size, 0, none⟩ = some (.int .i64 (B : Int)) ∧ w'.cell? ⟨w.heap.size, 1, none⟩ = some (.int .i64 (P : Int)) ∧ w'.cell? ⟨w.heap.size, 2, none⟩ = some (.int .i64 (W : Int)))
    ((exact ⟨kb.cells.1, kb.cells.2.1, kb.cells.2.2.1⟩))
    (first
      | (go_at_call 100
         (with_reducible refine (HF.out _).mono ?_)
         rintro en w3 ⟨rfl, b⟩
         replace kb := kb.on b
         replace HB := Lib.hid (Below.step HB.out b)
         clear b))
  go_wp2_with fail
  go_ret
  exact ⟨rfl, HB.out⟩
theorem half_bit {r Q M : Nat} (hM : M = 2 * Q) (hr : r < M) : r / Q % 2 = 1 ↔ Q ≤ r := by
  have hQ : 0 < Q := by omega
  constructor
  · intro h
    rcases Nat.lt_or_ge r Q with h1 | h1
    · rw [Nat.div_eq_of_lt h1] at h; omega
    · exact h1
  · intro h
    have h1 : r = (r - Q) + Q * 1 := by omega
    rw [h1, Nat.add_mul_div_left _ _ hQ, Nat.div_eq_of_lt (by omega)]
/-- bits by their parts. -/
theorem bits_parts {B P W M E H : Nat} {low : Int} (hf : Fm B P W M E H low) (b : Nat) : b % (2 * H) = b / H % 2 * H + (b / M % (E + 1) * M + b % M) ∧ b / M % (E + 1) * M + b % M < H := by
  obtain ⟨e1, e2⟩ := hf.hlf
  have hM : 0 < M := by have := hf.bd; omega
  have h1 : b % H = b / M % (E + 1) * M + b % M := by
    rw [← e1, Nat.mod_mul, Nat.mul_comm M, Nat.add_comm]
  refine ⟨?_, by rw [← h1]; exact Nat.mod_lt _ (by have := hf.bd; omega)⟩
  rw [← h1, Nat.mul_comm 2 H, Nat.mod_mul, Nat.mul_comm H, Nat.add_comm]
theorem qts_high {B P W M E H : Nat} {low : Int} (hf : Fm B P W M E H low) (b : Nat) : b % (2 * H) / (M / 2) % 2 = b % M / (M / 2) % 2 := by
  obtain ⟨e1, e2⟩ := hf.hlf
  have hM : 0 < M / 2 := by have := hf.bd; omega
  rw [(bits_parts hf b).1]
  generalize b / H % 2 = s
  generalize b / M % (E + 1) = x
  generalize b % M = r
  generalize M / 2 = Q at *
  have h : s * H + (x * M + r) = r + Q * (2 * (s * (E + 1) + x)) := by
    have h1 : s * (2 * Q * (E + 1)) = 2 * (Q * (s * (E + 1))) := by ac_rfl
    have h2 : x * (2 * Q) = 2 * (Q * x) := by ac_rfl
    have h3 : Q * (2 * (s * (E + 1) + x)) = 2 * (Q * (s * (E + 1))) + 2 * (Q * x) := by rw [Nat.mul_left_comm, Nat.mul_add, Nat.mul_add]
    rw [← e1, e2, h1, h2, h3]
    omega
  rw [h, Nat.add_mul_div_left _ _ hM]
  omega
theorem rof_16 (w : World) :
    Calls Tryd.prog 11 #[.int .i64 16] w fun e w' => e = .returned (.tuple #[.agg #[.int .i64 16, .int .i64 11, .int .i64 5], .int .i64 0]) ∧ Below w.heap.size w w' := by
  go_enter Tryd.func11, Tryd.ntmps11
  go_wp2_with fail
  obtain ⟨V, hV, z0, BW, sW⟩ := fframe1 w 32 16 11 5
  rw [hV]
  clear hV sW
  obtain ⟨z0c0, z0c1, z0c2, z0f0, z0f1, z0f2, z0l⟩ := z0.cells
  refine bodyPost_ret (v := .tuple #[.agg #[.int .i64 16, .int .i64 11, .int .i64 5], .int .i64 0]) (by simp [results, Tryd.results11, go_sem, z0c0, z0c1, z0c2]) rfl ⟨rfl, ?_⟩
  exact BW
theorem rof_32 (w : World) :
    Calls Tryd.prog 11 #[.int .i64 32] w fun e w' => e = .returned (.tuple #[.agg #[.int .i64 32, .int .i64 24, .int .i64 8], .int .i64 0]) ∧ Below w.heap.size w w' := by
  go_enter Tryd.func11, Tryd.ntmps11
  go_wp2_with fail
  obtain ⟨V, hV, z0, BW, sW⟩ := fframe1 w 32 32 24 8
  rw [hV]
  clear hV sW
  obtain ⟨z0c0, z0c1, z0c2, z0f0, z0f1, z0f2, z0l⟩ := z0.cells
  refine bodyPost_ret (v := .tuple #[.agg #[.int .i64 32, .int .i64 24, .int .i64 8], .int .i64 0]) (by simp [results, Tryd.results11, go_sem, z0c0, z0c1, z0c2]) rfl ⟨rfl, ?_⟩
  exact BW
theorem rof_64 (w : World) :
    Calls Tryd.prog 11 #[.int .i64 64] w fun e w' => e = .returned (.tuple #[.agg #[.int .i64 64, .int .i64 53, .int .i64 11], .int .i64 0]) ∧ Below w.heap.size w w' := by
  go_enter Tryd.func11, Tryd.ntmps11
  go_wp2_with fail
  obtain ⟨V, hV, z0, BW, sW⟩ := fframe1 w 32 64 53 11
  rw [hV]
  clear hV sW
  obtain ⟨z0c0, z0c1, z0c2, z0f0, z0f1, z0f2, z0l⟩ := z0.cells
  refine bodyPost_ret (v := .tuple #[.agg #[.int .i64 64, .int .i64 53, .int .i64 11], .int .i64 0]) (by simp [results, Tryd.results11, go_sem, z0c0, z0c1, z0c2]) rfl ⟨rfl, ?_⟩
  exact BW
theorem rof_bad (n : Int) (h1 : n ≠ 16) (h2 : n ≠ 32) (h3 : n ≠ 64) (w : World) :
    Calls Tryd.prog 11 #[.int .i64 n] w fun e w' => e = .returned (.tuple #[.agg #[.int .i64 0, .int .i64 0, .int .i64 0], .int .i64 1]) ∧ Below w.heap.size w w' := by
  have d0 : (n == (16 : Int)) = false := by simp; omega
  have d1 : (n == (32 : Int)) = false := by simp; omega
  have d2 : (n == (64 : Int)) = false := by simp; omega
  go_enter Tryd.func11, Tryd.ntmps11
  go_wp2_with fail
  obtain ⟨V, hV, z0, BW, sW⟩ := fframe1 w 32 0 0 0
  rw [hV]
  clear hV sW
  obtain ⟨z0c0, z0c1, z0c2, z0f0, z0f1, z0f2, z0l⟩ := z0.cells
  refine bodyPost_ret (v := .tuple #[.agg #[.int .i64 0, .int .i64 0, .int .i64 0], .int .i64 1]) (by simp [results, Tryd.results11, go_sem, z0c0, z0c1, z0c2]) rfl ⟨rfl, ?_⟩
  exact BW
theorem rof_fm {B P W M E H : Nat} {low : Int} (hf : Fm B P W M E H low) (w : World) :
    Calls Tryd.prog 11 #[.int .i64 (B : Int)] w fun e w' => e = .returned (.tuple #[.agg #[.int .i64 (B : Int), .int .i64 (P : Int), .int .i64 (W : Int)], .int .i64 0]) ∧ Below w.heap.size w w' := by
  rcases hf with ⟨rfl, rfl, rfl, rfl, rfl, rfl, rfl⟩ | ⟨rfl, rfl, rfl, rfl, rfl, rfl, rfl⟩ | ⟨rfl, rfl, rfl, rfl, rfl, rfl, rfl⟩
  · exact rof_16 w
  · exact rof_32 w
  · exact rof_64 w
end Go.Proofs.YtkjbejdeejpdoaaDoor
