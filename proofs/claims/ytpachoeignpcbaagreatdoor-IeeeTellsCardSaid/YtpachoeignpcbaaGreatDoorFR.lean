/-
  The walks of the reference of layer 3: small functions.
  The walk of the reference of layer 3: Value.
  The walk of the reference of layer 3: Put.
-/
import Derived.Test.YtpachoeignpcbaaGreatDoorFA
import Derived.Test.YtpachoeignpcbaaGreatDoorRA
namespace Go.Proofs.YtpachoeignpcbaaGreatDoor
open Go.RowKit
set_option linter.unusedVariables false

theorem power_as (k m : Nat) (hk : k ≤ 63) (hm : 2 ^ k = m) (n : Int) (hn : n = (k : Int)) (w : World) :
    Calls Tryz.prog 50 #[.int .i64 n] w fun e w' => e = .returned (.int .u64 (m : Int)) ∧ w = w' := by
  have HM := Lib.hid hm
  subst hn
  clear hm
  go_enter Tryz.func50, Tryz.ntmps50
  go_wp2_with fail
  go_loop [3, 4] (fun t iv => ∃ i y : Nat, i ≤ k ∧ y = 2 ^ i ∧ iv = .int .i64 i ∧ t = .int .u64 y) (fun _ iv => k - (intOf iv).toNat)
  case atStart => exact ⟨0, 1, by omega, rfl, rfl, rfl⟩
  case round =>
    obtain ⟨i, y, hi, hy, rfl, rfl⟩ := hrel
    have HY := Lib.hid hy
    by_cases h0 : i = k
    · clear hy
      subst h0
      have d : decide ((i : Int) < (i : Int)) = false := decide_eq_false (by omega)
      go_wp2_with fail
      go_ret
      exact ⟨ret_int (by rw [HY.out, HM.out]), rfl⟩
    · have h1 : y ≤ 4611686018427387904 := by
        have h2 : 2 ^ i ≤ 2 ^ 62 := Nat.pow_le_pow_right (by omega) (by omega)
        omega
      clear hy
      have d : decide ((i : Int) < (k : Int)) = true := decide_eq_true (by omega)
      go_wp2_with fail
      go_round
      case rel => exact ⟨i + 1, y * 2, by omega, by rw [HY.out, Nat.pow_succ], rfl, by go_num⟩
      case measure => simp [intOf]; omega
theorem power_b (k m : Nat) (hk : k ≤ 63) (hm : 2 ^ k = m) (n : Int) (hn : n = (k : Int)) (w : World) :
    Calls Tryz.prog 50 #[.int .i64 n] w fun e w' => e = .returned (.int .u64 (m : Int)) ∧ Below w.heap.size w w' :=
  (power_as k m hk hm n hn w).mono fun e w' ⟨h, hw⟩ => ⟨h, hw ▸ Below.refl _ _⟩
theorem rbias_as {B P W M E H : Nat} {low : Int} (hf : Fm B P W M E H low) (q : Int) (hq : 2 - (P : Int) - low = q) (w : World) :
    Calls Tryz.prog 48 #[.agg #[.int .i64 (B : Int), .int .i64 (P : Int), .int .i64 (W : Int)]] w fun e w' => e = .returned (.int .i64 q) ∧ Below w.heap.size w w' := by
  obtain ⟨b1, b2, b3, b4, b5, b6, b7, b8, b9, b10, b11, b12, b13, b14, b15⟩ := hf.bd
  obtain ⟨k, hk⟩ : ∃ k : Nat, 2 ^ (W - 1) = k + 1 ∧ (k : Int) = q := ⟨(2 - (P : Int) - low).toNat, by
    have := hf.pBias
    have h2 := Nat.two_pow_pos (W - 1)
    omega, by
    have := hf.pBias
    have h2 := Nat.two_pow_pos (W - 1)
    omega⟩
  have HK := Lib.hid hk.1
  obtain rfl := hk.2
  have hk3 : k ≤ 2000 := by
    have h1 : 2 ^ (W - 1) ≤ 2 ^ 10 := Nat.pow_le_pow_right (by omega) (by omega)
    omega
  have HF := Lib.hid (fun (V : World) => power_as (W - 1) (k + 1) (by omega) HK.out ((W : Int) - 1) (by omega) V)
  clear hq hf b1 hk
  go_enter Tryz.func48, Tryz.ntmps48
  go_wp2_with (refine (HF.out _).mono ?_; rintro e w' ⟨rfl, rfl⟩)
  go_ret
  exact ⟨ret_int (by omega), below_lit _ _⟩
theorem rlow_as {B P W M E H : Nat} {low : Int} (hf : Fm B P W M E H low) (q : Int) (hq : low = q) (w : World) :
    Calls Tryz.prog 58 #[.agg #[.int .i64 (B : Int), .int .i64 (P : Int), .int .i64 (W : Int)]] w fun e w' => e = .returned (.int .i64 q) ∧ Below w.heap.size w w' := by
  obtain ⟨b1, b2, b3, b4, b5, b6, b7, b8, b9, b10, b11, b12, b13, b14, b15⟩ := hf.bd
  subst hq
  obtain ⟨i, hi⟩ : ∃ i : Int, 2 - (P : Int) - low = i := ⟨_, rfl⟩
  have HF := Lib.hid (fun (V : World) => rbias_as hf i hi V)
  have q1 : IntKind.i64.wrap (2 - (P : Int)) = 2 - (P : Int) := IntWalk.i64_in _ (by omega)
  have q2 : IntKind.i64.wrap (2 - (P : Int) - i) = low := by rw [IntWalk.i64_in _ (by omega)]; omega
  clear hi hf b1
  go_enter Tryz.func58, Tryz.ntmps58
  go_wp2_with fail
  obtain ⟨V, hV, z0, BW, sW⟩ := fframe1 w 29 (B : Int) (P : Int) (W : Int)
  rw [hV]
  clear hV
  have kb : FB V.drew w.heap.size 29 (B : Int) (P : Int) (W : Int) := z0.on ((Below.refl _ _).drew)
  have HB := Lib.hid (Below.step BW ((Below.refl _ _).drew))
  clear z0 BW
  go_region_held3 (fun w' => w'.cell? ⟨w.heap.size, 0, none⟩ = some (.int .i64 (B : Int)) ∧ w'.cell? ⟨w.heap.size, 1, none⟩ = some (.int .i64 (P : Int)) ∧ w'.cell? ⟨w.heap.size, 2, none⟩ = some (.int .i64 (W : Int)))
    ((exact ⟨kb.cells.1, kb.cells.2.1, kb.cells.2.2.1⟩))
    (first
      | (go_at_call 48
         (with_reducible refine (HF.out _).mono ?_)
         rintro en w3 ⟨rfl, b⟩
         replace kb := kb.on b
         replace HB := Lib.hid (Below.step HB.out b)
         clear b))
  go_wp2_with fail
  go_ret
  exact ⟨rfl, HB.out⟩
/-- sign, exponent field, fraction; are there bits beyond? -/
theorem parts_as {B P W M E H : Nat} {low : Int} (hf : Fm B P W M E H low) (b s x r : Nat) (y : Bool) (hb : b < 18446744073709551616) (hs : b / H % 2 = s) (hx : b / M % (E + 1) = x) (hr : b % M = r) (hy : decide (¬ b < 2 * H) = y) (w : World) :
    Calls Tryz.prog 41 #[.agg #[.int .i64 (B : Int), .int .i64 (P : Int), .int .i64 (W : Int)], .int .u64 (b : Int)] w fun e w' => e = .returned (.tuple #[.int .u64 (s : Int), .int .u64 (x : Int), .int .u64 (r : Int), .bool y]) ∧ Below w.heap.size w w' := by
  obtain ⟨b1, b2, b3, b4, b5, b6, b7, b8, b9, b10, b11, b12, b13, b14, b15⟩ := hf.bd
  have HP := Lib.hid (fun (V : World) => power_as (P - 1) M (by omega) hf.pP ((P : Int) - 1) (by omega) V)
  have HW := Lib.hid (fun (V : World) => power_as W (E + 1) (by omega) hf.pW (W : Int) rfl V)
  obtain ⟨e1, e2⟩ := hf.hlf
  obtain ⟨z, hz⟩ : ∃ z, b / M = z := ⟨_, rfl⟩
  obtain ⟨t, ht⟩ : ∃ t, z / (E + 1) = t := ⟨_, rfl⟩
  have ht2 : b / H = t := by rw [← ht, ← hz, Nat.div_div_eq_div_mul, e1]
  rw [ht2] at hs
  rw [hz] at hx
  have hz2 : z ≤ b := by rw [← hz]; exact Nat.div_le_self _ _
  have ht3 : t ≤ z := by rw [← ht]; exact Nat.div_le_self _ _
  have q6 : decide (1 < (t : Int)) = y := by
    rw [← hy]
    refine decide_eq_decide.2 ?_
    have h1 : 1 < t ↔ 2 * H ≤ b := by rw [Nat.lt_iff_add_one_le, ← ht2, Nat.le_div_iff_mul_le (by omega)]
    omega
  have c1 : (E : Int) + 1 = ((E + 1 : Nat) : Int) := by omega
  have q1 : (b : Int) % (M : Int) = (r : Int) := by rw [← Int.natCast_emod, hr]
  have q2 : IntKind.u64.wrap ((b : Int) / (M : Int)) = (z : Int) := by rw [← Int.natCast_ediv, hz]; exact wrap64_nat z (by omega)
  have q3 : (z : Int) % ((E : Int) + 1) = (x : Int) := by rw [c1, ← Int.natCast_emod, hx]
  have q3' : (z : Int).tmod ((E : Int) + 1) = (x : Int) := by rw [Int.tmod_eq_emod_of_nonneg (by omega)]; exact q3
  have q4 : IntKind.u64.wrap ((z : Int) / ((E : Int) + 1)) = (t : Int) := by rw [c1, ← Int.natCast_ediv, ht]; exact wrap64_nat t (by omega)
  have q4' : IntKind.u64.wrap ((z : Int).tdiv ((E : Int) + 1)) = (t : Int) := by rw [Int.tdiv_eq_ediv_of_nonneg (by omega)]; exact q4
  have q5 : (t : Int) % 2 = (s : Int) := by omega
  clear hf b1 hs hx hr hy e1 e2 hz ht ht2 hz2 ht3 c1
  go_enter Tryz.func41, Tryz.ntmps41
  go_wp2_with fail
  refine (HP.out _).mono ?_
  rintro e w' ⟨rfl, rfl⟩
  go_wp2_with fail
  refine (HP.out _).mono ?_
  rintro e w' ⟨rfl, rfl⟩
  go_wp2_with fail
  refine (HW.out _).mono ?_
  rintro e w' ⟨rfl, rfl⟩
  go_wp2_with fail
  refine (HW.out _).mono ?_
  rintro e w' ⟨rfl, rfl⟩
  go_wp2_with fail
  refine bodyPost_ret (v := .tuple #[.int .u64 (s : Int), .int .u64 (x : Int), .int .u64 (r : Int), .bool y]) (by simp [results, Tryz.results41, go_sem, q5]) rfl ⟨rfl, below_lit _ _⟩
theorem build_pos {B P W M E H : Nat} {low : Int} (hf : Fm B P W M E H low) (x r v : Nat) (he : x * M + r < H) (hv : x * M + r = v) (w : World) :
    Calls Tryz.prog 30 #[.agg #[.int .i64 (B : Int), .int .i64 (P : Int), .int .i64 (W : Int)], .bool false, .int .u64 (x : Int), .int .u64 (r : Int)] w fun e w' => e = .returned (.int .u64 (v : Int)) ∧ Below w.heap.size w w' := by
  obtain ⟨b1, b2, b3, b4, b5, b6, b7, b8, b9, b10, b11, b12, b13, b14, b15⟩ := hf.bd
  have HP := Lib.hid (fun (V : World) => power_as (P - 1) M (by omega) hf.pP ((P : Int) - 1) (by omega) V)
  obtain ⟨s, hs⟩ : ∃ s, x * M = s := ⟨_, rfl⟩
  rw [hs] at hv he
  have q1 : IntKind.u64.wrap ((x : Int) * (M : Int)) = (s : Int) := by rw [← Int.natCast_mul, hs]; exact wrap64_nat s (by omega)
  have q2 : IntKind.u64.wrap ((s : Int) + (r : Int)) = (v : Int) := by rw [← Int.natCast_add, hv]; exact wrap64_nat v (by omega)
  clear hv hf b1 hs
  go_enter Tryz.func30, Tryz.ntmps30
  go_wp2_with fail
  obtain ⟨V, hV, z0, BW, sW⟩ := fframe1 w 29 (B : Int) (P : Int) (W : Int)
  rw [hV]
  clear hV sW
  obtain ⟨z0c0, z0c1, z0c2, z0f0, z0f1, z0f2, z0l⟩ := z0.cells
  refine (HP.out _).mono ?_
  rintro en w' ⟨rfl, rfl⟩
  go_wp2_with fail
  go_ret
  exact ⟨rfl, BW⟩
theorem build_neg {B P W M E H : Nat} {low : Int} (hf : Fm B P W M E H low) (x r v : Nat) (he : x * M + r < H) (hv : H + (x * M + r) = v) (w : World) :
    Calls Tryz.prog 30 #[.agg #[.int .i64 (B : Int), .int .i64 (P : Int), .int .i64 (W : Int)], .bool true, .int .u64 (x : Int), .int .u64 (r : Int)] w fun e w' => e = .returned (.int .u64 (v : Int)) ∧ Below w.heap.size w w' := by
  obtain ⟨b1, b2, b3, b4, b5, b6, b7, b8, b9, b10, b11, b12, b13, b14, b15⟩ := hf.bd
  have HP := Lib.hid (fun (V : World) => power_as (P - 1) M (by omega) hf.pP ((P : Int) - 1) (by omega) V)
  have HB := Lib.hid (fun (V : World) => power_as (B - 1) H (by omega) hf.pB ((B : Int) - 1) (by omega) V)
  obtain ⟨s, hs⟩ : ∃ s, x * M = s := ⟨_, rfl⟩
  obtain ⟨t, ht⟩ : ∃ t, s + r = t := ⟨_, rfl⟩
  rw [hs] at hv he
  rw [ht] at hv he
  have q1 : IntKind.u64.wrap ((x : Int) * (M : Int)) = (s : Int) := by rw [← Int.natCast_mul, hs]; exact wrap64_nat s (by omega)
  have q2 : IntKind.u64.wrap ((s : Int) + (r : Int)) = (t : Int) := by rw [← Int.natCast_add, ht]; exact wrap64_nat t (by omega)
  have q3 : IntKind.u64.wrap ((t : Int) + (H : Int)) = (v : Int) := by rw [← Int.natCast_add, Nat.add_comm, hv]; exact wrap64_nat v (by omega)
  clear hv hf b1 hs ht
  go_enter Tryz.func30, Tryz.ntmps30
  go_wp2_with fail
  obtain ⟨V, hV, z0, BW, sW⟩ := fframe1 w 29 (B : Int) (P : Int) (W : Int)
  rw [hV]
  clear hV sW
  obtain ⟨z0c0, z0c1, z0c2, z0f0, z0f1, z0f2, z0l⟩ := z0.cells
  refine (HP.out _).mono ?_
  rintro en w' ⟨rfl, rfl⟩
  go_wp2_with fail
  refine (HB.out _).mono ?_
  rintro en w' ⟨rfl, rfl⟩
  go_wp2_with fail
  go_ret
  exact ⟨rfl, BW⟩
theorem build_as {B P W M E H : Nat} {low : Int} (hf : Fm B P W M E H low) (neg : Bool) (x r v : Nat) (he : x * M + r < H) (hv : sgn H neg (x * M + r) = v) (w : World) :
    Calls Tryz.prog 30 #[.agg #[.int .i64 (B : Int), .int .i64 (P : Int), .int .i64 (W : Int)], .bool neg, .int .u64 (x : Int), .int .u64 (r : Int)] w fun e w' => e = .returned (.int .u64 (v : Int)) ∧ Below w.heap.size w w' := by
  cases neg
  · exact build_pos hf x r v he hv w
  · exact build_neg hf x r v he hv w
theorem build_nil {B P W M E H : Nat} {low : Int} (hf : Fm B P W M E H low) (neg : Bool) (x v : Nat) (he : x * M < H) (hv : sgn H neg (x * M) = v) (w : World) :
    Calls Tryz.prog 30 #[.agg #[.int .i64 (B : Int), .int .i64 (P : Int), .int .i64 (W : Int)], .bool neg, .int .u64 (x : Int), .int .u64 0] w fun e w' => e = .returned (.int .u64 (v : Int)) ∧ Below w.heap.size w w' :=
  build_as hf neg x 0 v he hv w
theorem build_low {B P W M E H : Nat} {low : Int} (hf : Fm B P W M E H low) (neg : Bool) (r v : Nat) (he : r < H) (hv : sgn H neg r = v) (w : World) :
    Calls Tryz.prog 30 #[.agg #[.int .i64 (B : Int), .int .i64 (P : Int), .int .i64 (W : Int)], .bool neg, .int .u64 0, .int .u64 (r : Int)] w fun e w' => e = .returned (.int .u64 (v : Int)) ∧ Below w.heap.size w w' :=
  build_as hf neg 0 r v (by omega) (by rw [Nat.zero_mul, Nat.zero_add, hv]) w
theorem build_none {B P W M E H : Nat} {low : Int} (hf : Fm B P W M E H low) (neg : Bool) (v : Nat) (hv : sgn H neg 0 = v) (w : World) :
    Calls Tryz.prog 30 #[.agg #[.int .i64 (B : Int), .int .i64 (P : Int), .int .i64 (W : Int)], .bool neg, .int .u64 0, .int .u64 0] w fun e w' => e = .returned (.int .u64 (v : Int)) ∧ Below w.heap.size w w' :=
  build_low hf neg 0 v (by have := hf.bd; omega) hv w
theorem rinfinite_as {B P W M E H : Nat} {low : Int} (hf : Fm B P W M E H low) (neg : Bool) (v : Nat) (hv : sgn H neg (M * E) = v) (w : World) :
    Calls Tryz.prog 35 #[.agg #[.int .i64 (B : Int), .int .i64 (P : Int), .int .i64 (W : Int)], .bool neg] w fun e w' => e = .returned (.int .u64 (v : Int)) ∧ Below w.heap.size w w' := by
  obtain ⟨b1, b2, b3, b4, b5, b6, b7, b8, b9, b10, b11, b12, b13, b14, b15⟩ := hf.bd
  obtain ⟨e1, e2⟩ := hf.hlf
  have e3 : M * E + M = H := by rw [← e1, Nat.mul_add, Nat.mul_one]
  have e4 : M * E = E * M := Nat.mul_comm _ _
  have e5 : (E - 1) * M + M = E * M := by rw [show E * M = (E - 1 + 1) * M by congr 1; omega, Nat.add_mul, Nat.one_mul]
  obtain ⟨F, hF⟩ : ∃ F, E + 1 = F := ⟨_, rfl⟩
  have HW := Lib.hid (fun (V : World) => power_b W F (by omega) (by rw [hf.pW, hF]) (W : Int) rfl V)
  have HG := Lib.hid (fun (V : World) => build_nil hf neg E v (by omega) (by rw [← hv]; congr 1; omega) V)
  have q1 : IntKind.u64.wrap ((F : Int) - 1) = (E : Int) := by rw [show (F : Int) - 1 = ((E : Nat) : Int) by omega]; exact wrap64_nat E (by omega)
  clear hv hf b1 e1 e2 e3 e4 e5 hF
  go_enter Tryz.func35, Tryz.ntmps35
  go_wp2_with fail
  obtain ⟨V, hV, z0, BW, sW⟩ := fframe1 w 29 (B : Int) (P : Int) (W : Int)
  rw [hV]
  clear hV sW
  replace z0 := z0.on ((Below.refl _ _).drew : Below V.heap.size V V.drew)
  replace BW := Lib.hid (Below.step BW ((Below.refl _ _).drew : Below V.heap.size V V.drew))
  go_region_held3 (fun w' => w'.cell? ⟨w.heap.size, 0, none⟩ = some (.int .i64 (B : Int)) ∧ w'.cell? ⟨w.heap.size, 1, none⟩ = some (.int .i64 (P : Int)) ∧ w'.cell? ⟨w.heap.size, 2, none⟩ = some (.int .i64 (W : Int)))
    ((exact ⟨z0.cells.1, z0.cells.2.1, z0.cells.2.2.1⟩))
    (first
      | (go_at_call 50
         (with_reducible refine (HW.out _).mono ?_)
         rintro en w1 ⟨rfl, b⟩
         replace z0 := z0.on b
         replace BW := Lib.hid (Below.step BW.out b)
         clear b)
      | (go_at_call 30
         (with_reducible refine (HG.out _).mono ?_)
         rintro en w2 ⟨rfl, b⟩
         replace z0 := z0.on b
         replace BW := Lib.hid (Below.step BW.out b)
         clear b))
  replace BW := BW.out
  go_wp2_with fail
  go_ret
  exact ⟨rfl, BW⟩
theorem rgreatest_as {B P W M E H : Nat} {low : Int} (hf : Fm B P W M E H low) (neg : Bool) (v : Nat) (hv : sgn H neg (M * E - 1) = v) (w : World) :
    Calls Tryz.prog 68 #[.agg #[.int .i64 (B : Int), .int .i64 (P : Int), .int .i64 (W : Int)], .bool neg] w fun e w' => e = .returned (.int .u64 (v : Int)) ∧ Below w.heap.size w w' := by
  obtain ⟨b1, b2, b3, b4, b5, b6, b7, b8, b9, b10, b11, b12, b13, b14, b15⟩ := hf.bd
  obtain ⟨e1, e2⟩ := hf.hlf
  have e3 : M * E + M = H := by rw [← e1, Nat.mul_add, Nat.mul_one]
  have e4 : M * E = E * M := Nat.mul_comm _ _
  have e5 : (E - 1) * M + M = E * M := by rw [show E * M = (E - 1 + 1) * M by congr 1; omega, Nat.add_mul, Nat.one_mul]
  obtain ⟨F, hF⟩ : ∃ F, E + 1 = F := ⟨_, rfl⟩
  have HW := Lib.hid (fun (V : World) => power_b W F (by omega) (by rw [hf.pW, hF]) (W : Int) rfl V)
  have HP := Lib.hid (fun (V : World) => power_b (P - 1) M (by omega) hf.pP ((P : Int) - 1) (by omega) V)
  obtain ⟨x, hx⟩ : ∃ x, E - 1 = x := ⟨_, rfl⟩
  obtain ⟨r, hr⟩ : ∃ r, M - 1 = r := ⟨_, rfl⟩
  rw [hx] at e5
  have HG := Lib.hid (fun (V : World) => build_as hf neg x r v (by omega) (by rw [← hv]; congr 1; omega) V)
  have q0 : IntKind.i64.wrap ((P : Int) - 1) = (P : Int) - 1 := IntWalk.i64_in _ (by omega)
  have q1 : IntKind.u64.wrap ((F : Int) - 2) = (x : Int) := by rw [show (F : Int) - 2 = ((x : Nat) : Int) by omega]; exact wrap64_nat x (by omega)
  have q2 : IntKind.u64.wrap ((M : Int) - 1) = (r : Int) := by rw [show (M : Int) - 1 = ((r : Nat) : Int) by omega]; exact wrap64_nat r (by omega)
  clear hx hr
  clear hv hf b1 e1 e2 e3 e4 e5 hF
  go_enter Tryz.func68, Tryz.ntmps68
  go_wp2_with fail
  obtain ⟨V, hV, z0, BW, sW⟩ := fframe1 w 29 (B : Int) (P : Int) (W : Int)
  rw [hV]
  clear hV sW
  replace z0 := z0.on ((Below.refl _ _).drew : Below V.heap.size V V.drew)
  replace BW := Lib.hid (Below.step BW ((Below.refl _ _).drew : Below V.heap.size V V.drew))
  go_region_held3 (fun w' => w'.cell? ⟨w.heap.size, 0, none⟩ = some (.int .i64 (B : Int)) ∧ w'.cell? ⟨w.heap.size, 1, none⟩ = some (.int .i64 (P : Int)) ∧ w'.cell? ⟨w.heap.size, 2, none⟩ = some (.int .i64 (W : Int)))
    ((exact ⟨z0.cells.1, z0.cells.2.1, z0.cells.2.2.1⟩))
    (first
      | (go_at_call 50
         (with_reducible refine (HW.out _).mono ?_)
         rintro en w1 ⟨rfl, b⟩
         replace z0 := z0.on b
         replace BW := Lib.hid (Below.step BW.out b)
         clear b)
      | (go_at_call 50
         (with_reducible refine (HP.out _).mono ?_)
         rintro en w2 ⟨rfl, b⟩
         replace z0 := z0.on b
         replace BW := Lib.hid (Below.step BW.out b)
         clear b)
      | (go_at_call 30
         (with_reducible refine (HG.out _).mono ?_)
         rintro en w3 ⟨rfl, b⟩
         replace z0 := z0.on b
         replace BW := Lib.hid (Below.step BW.out b)
         clear b))
  replace BW := BW.out
  go_wp2_with fail
  go_ret
  exact ⟨rfl, BW⟩
theorem rnone_as {B P W M E H : Nat} {low : Int} (hf : Fm B P W M E H low) (v : Nat) (hv : M * E + M / 2 = v) (w : World) :
    Calls Tryz.prog 34 #[.agg #[.int .i64 (B : Int), .int .i64 (P : Int), .int .i64 (W : Int)]] w fun e w' => e = .returned (.int .u64 (v : Int)) ∧ Below w.heap.size w w' := by
  obtain ⟨b1, b2, b3, b4, b5, b6, b7, b8, b9, b10, b11, b12, b13, b14, b15⟩ := hf.bd
  obtain ⟨e1, e2⟩ := hf.hlf
  have e3 : M * E + M = H := by rw [← e1, Nat.mul_add, Nat.mul_one]
  have e4 : M * E = E * M := Nat.mul_comm _ _
  have e5 : (E - 1) * M + M = E * M := by rw [show E * M = (E - 1 + 1) * M by congr 1; omega, Nat.add_mul, Nat.one_mul]
  obtain ⟨F, hF⟩ : ∃ F, E + 1 = F := ⟨_, rfl⟩
  have HW := Lib.hid (fun (V : World) => power_b W F (by omega) (by rw [hf.pW, hF]) (W : Int) rfl V)
  obtain ⟨r, hr⟩ : ∃ r, M / 2 = r := ⟨_, rfl⟩
  have HP := Lib.hid (fun (V : World) => power_b (P - 2) r (by omega) (by rw [hf.pQ, hr]) ((P : Int) - 2) (by omega) V)
  have HG := Lib.hid (fun (V : World) => build_as hf false E r v (by omega) (by rw [← hv, hr]; show E * M + r = M * E + r; omega) V)
  have q0 : IntKind.i64.wrap ((P : Int) - 2) = (P : Int) - 2 := IntWalk.i64_in _ (by omega)
  have q1 : IntKind.u64.wrap ((F : Int) - 1) = (E : Int) := by rw [show (F : Int) - 1 = ((E : Nat) : Int) by omega]; exact wrap64_nat E (by omega)
  clear hr
  clear hv hf b1 e1 e2 e3 e4 e5 hF
  go_enter Tryz.func34, Tryz.ntmps34
  go_wp2_with fail
  obtain ⟨V, hV, z0, BW, sW⟩ := fframe1 w 29 (B : Int) (P : Int) (W : Int)
  rw [hV]
  clear hV sW
  replace z0 := z0.on ((Below.refl _ _).drew : Below V.heap.size V V.drew)
  replace BW := Lib.hid (Below.step BW ((Below.refl _ _).drew : Below V.heap.size V V.drew))
  go_region_held3 (fun w' => w'.cell? ⟨w.heap.size, 0, none⟩ = some (.int .i64 (B : Int)) ∧ w'.cell? ⟨w.heap.size, 1, none⟩ = some (.int .i64 (P : Int)) ∧ w'.cell? ⟨w.heap.size, 2, none⟩ = some (.int .i64 (W : Int)))
    ((exact ⟨z0.cells.1, z0.cells.2.1, z0.cells.2.2.1⟩))
    (first
      | (go_at_call 50
         (with_reducible refine (HW.out _).mono ?_)
         rintro en w1 ⟨rfl, b⟩
         replace z0 := z0.on b
         replace BW := Lib.hid (Below.step BW.out b)
         clear b)
      | (go_at_call 50
         (with_reducible refine (HP.out _).mono ?_)
         rintro en w2 ⟨rfl, b⟩
         replace z0 := z0.on b
         replace BW := Lib.hid (Below.step BW.out b)
         clear b)
      | (go_at_call 30
         (with_reducible refine (HG.out _).mono ?_)
         rintro en w3 ⟨rfl, b⟩
         replace z0 := z0.on b
         replace BW := Lib.hid (Below.step BW.out b)
         clear b))
  replace BW := BW.out
  go_wp2_with fail
  go_ret
  exact ⟨rfl, BW⟩
theorem half_bit {r Q M : Nat} (hM : M = 2 * Q) (hr : r < M) : r / Q % 2 = 1 ↔ Q ≤ r := by
  have hQ : 0 < Q := by omega
  constructor
  · intro h
    rcases Nat.lt_or_ge r Q with h1 | h1
    · rw [Nat.div_eq_of_lt h1] at h; omega
    · exact h1
  · intro h
    have h1 : r = (r - Q) + Q * 1 := by omega
    rw [h1, Nat.add_mul_div_left _ _ hQ, Nat.div_eq_of_lt (by omega)]
set_option maxHeartbeats 1000000 in
theorem rclass_as {B P W M E H : Nat} {low : Int} (hf : Fm B P W M E H low) (b : Nat) (v : Int) (hb : b < 18446744073709551616) (hv : clsS M E b = v) (w : World) :
    Calls Tryz.prog 25 #[.agg #[.int .i64 (B : Int), .int .i64 (P : Int), .int .i64 (W : Int)], .int .u64 (b : Int)] w fun e w' => e = .returned (.int .i64 v) ∧ Below w.heap.size w w' := by
  obtain ⟨b1, b2, b3, b4, b5, b6, b7, b8, b9, b10, b11, b12, b13, b14, b15⟩ := hf.bd
  unfold clsS at hv
  obtain ⟨r, hr⟩ : ∃ r, b % M = r := ⟨_, rfl⟩
  obtain ⟨x, hx⟩ : ∃ x, b / M % (E + 1) = x := ⟨_, rfl⟩
  obtain ⟨s, hs⟩ : ∃ s, b / H % 2 = s := ⟨_, rfl⟩
  obtain ⟨y, hy⟩ : ∃ y, decide (¬ b < 2 * H) = y := ⟨_, rfl⟩
  obtain ⟨Q, hQ⟩ : ∃ Q, M / 2 = Q := ⟨_, rfl⟩
  obtain ⟨F, hF⟩ : ∃ F, E + 1 = F := ⟨_, rfl⟩
  have hr2 : r < M := by rw [← hr]; exact Nat.mod_lt _ (by omega)
  have hx2 : x < E + 1 := by rw [← hx]; exact Nat.mod_lt _ (by omega)
  have HT := Lib.hid (fun (V : World) => parts_as hf b s x r y hb hs hx hr hy V)
  have HW := Lib.hid (fun (V : World) => power_as W F (by omega) (by rw [hf.pW, hF]) (W : Int) rfl V)
  have HQ := Lib.hid (fun (V : World) => power_as (P - 2) Q (by omega) (by rw [hf.pQ, hQ]) ((P : Int) - 2) (by omega) V)
  have hh := half_bit (r := r) (Q := Q) (by have := hf.hlf.2; omega) hr2
  rw [hr, hx, hQ] at hv
  have q1 : IntKind.u64.wrap ((F : Int) - 1) = (E : Int) := by rw [show (F : Int) - 1 = ((E : Nat) : Int) by omega]; exact wrap64_nat E (by omega)
  clear hr hx hQ hs hy hf b1
  by_cases c1 : x = 0
  · rw [if_pos c1] at hv
    subst c1
    clear hh
    by_cases c2 : r = 0
    · rw [if_pos c2] at hv
      subst c2 hv
      clear hF
      go_enter Tryz.func25, Tryz.ntmps25
      go_wp2_with fail
      obtain ⟨V, hV, z0, BW, sW⟩ := fframe1 w 29 (B : Int) (P : Int) (W : Int)
      rw [hV]
      clear hV sW
      refine (HT.out _).mono ?_
      rintro en w1 ⟨rfl, b⟩
      replace z0 := z0.on b
      replace BW := Below.step BW b
      clear b
      obtain ⟨z0c0, z0c1, z0c2, z0f0, z0f1, z0f2, z0l⟩ := z0.cells
      go_wp2_with fail
      refine (HW.out _).mono ?_
      rintro en w' ⟨rfl, rfl⟩
      go_wp2_with fail
      go_ret
      exact ⟨rfl, BW⟩
    · rw [if_neg c2] at hv
      subst hv
      clear hF
      have d2 : ((r : Int) == 0) = false := by simp; omega
      go_enter Tryz.func25, Tryz.ntmps25
      go_wp2_with fail
      obtain ⟨V, hV, z0, BW, sW⟩ := fframe1 w 29 (B : Int) (P : Int) (W : Int)
      rw [hV]
      clear hV sW
      refine (HT.out _).mono ?_
      rintro en w1 ⟨rfl, b⟩
      replace z0 := z0.on b
      replace BW := Below.step BW b
      clear b
      obtain ⟨z0c0, z0c1, z0c2, z0f0, z0f1, z0f2, z0l⟩ := z0.cells
      go_wp2_with fail
      refine (HW.out _).mono ?_
      rintro en w' ⟨rfl, rfl⟩
      go_wp2_with fail
      go_ret
      exact ⟨rfl, BW⟩
  · rw [if_neg c1] at hv
    have d1 : ((x : Int) == 0) = false := by simp; omega
    by_cases c3 : x ≠ E
    · rw [if_pos c3] at hv
      subst hv
      have d3 : decide ((x : Int) < (E : Int)) = true := decide_eq_true (by omega)
      clear hh hF
      go_enter Tryz.func25, Tryz.ntmps25
      go_wp2_with fail
      obtain ⟨V, hV, z0, BW, sW⟩ := fframe1 w 29 (B : Int) (P : Int) (W : Int)
      rw [hV]
      clear hV sW
      refine (HT.out _).mono ?_
      rintro en w1 ⟨rfl, b⟩
      replace z0 := z0.on b
      replace BW := Below.step BW b
      clear b
      obtain ⟨z0c0, z0c1, z0c2, z0f0, z0f1, z0f2, z0l⟩ := z0.cells
      go_wp2_with fail
      refine (HW.out _).mono ?_
      rintro en w' ⟨rfl, rfl⟩
      go_wp2_with fail
      go_ret
      exact ⟨rfl, BW⟩
    · rw [if_neg c3] at hv
      obtain rfl : x = E := by omega
      have d3 : decide ((x : Int) < (x : Int)) = false := decide_eq_false (by omega)
      clear c3 hF
      by_cases c2 : r = 0
      · rw [if_pos c2] at hv
        subst c2 hv
        clear hh
        go_enter Tryz.func25, Tryz.ntmps25
        go_wp2_with fail
        obtain ⟨V, hV, z0, BW, sW⟩ := fframe1 w 29 (B : Int) (P : Int) (W : Int)
        rw [hV]
        clear hV sW
        refine (HT.out _).mono ?_
        rintro en w1 ⟨rfl, b⟩
        replace z0 := z0.on b
        replace BW := Below.step BW b
        clear b
        obtain ⟨z0c0, z0c1, z0c2, z0f0, z0f1, z0f2, z0l⟩ := z0.cells
        go_wp2_with fail
        refine (HW.out _).mono ?_
        rintro en w' ⟨rfl, rfl⟩
        go_wp2_with fail
        go_ret
        exact ⟨rfl, BW⟩
      · rw [if_neg c2] at hv
        have d2 : ((r : Int) == 0) = false := by simp; omega
        by_cases c4 : r / Q % 2 = 1
        · rw [if_pos c4] at hv
          subst hv
          have d4 : decide (Q ≤ r) = true := decide_eq_true (hh.1 c4)
          clear hh c4
          go_enter Tryz.func25, Tryz.ntmps25
          go_wp2_with fail
          obtain ⟨V, hV, z0, BW, sW⟩ := fframe1 w 29 (B : Int) (P : Int) (W : Int)
          rw [hV]
          clear hV sW
          refine (HT.out _).mono ?_
          rintro en w1 ⟨rfl, b⟩
          replace z0 := z0.on b
          replace BW := Below.step BW b
          clear b
          obtain ⟨z0c0, z0c1, z0c2, z0f0, z0f1, z0f2, z0l⟩ := z0.cells
          go_wp2_with fail
          refine (HW.out _).mono ?_
          rintro en w' ⟨rfl, rfl⟩
          go_wp2_with fail
          refine (HQ.out _).mono ?_
          rintro en w' ⟨rfl, rfl⟩
          go_wp2_with fail
          go_ret
          exact ⟨rfl, BW⟩
        · rw [if_neg c4] at hv
          subst hv
          have d4 : decide (Q ≤ r) = false := decide_eq_false (fun h => c4 (hh.2 h))
          clear hh c4
          go_enter Tryz.func25, Tryz.ntmps25
          go_wp2_with fail
          obtain ⟨V, hV, z0, BW, sW⟩ := fframe1 w 29 (B : Int) (P : Int) (W : Int)
          rw [hV]
          clear hV sW
          refine (HT.out _).mono ?_
          rintro en w1 ⟨rfl, b⟩
          replace z0 := z0.on b
          replace BW := Below.step BW b
          clear b
          obtain ⟨z0c0, z0c1, z0c2, z0f0, z0f1, z0f2, z0l⟩ := z0.cells
          go_wp2_with fail
          refine (HW.out _).mono ?_
          rintro en w' ⟨rfl, rfl⟩
          go_wp2_with fail
          refine (HQ.out _).mono ?_
          rintro en w' ⟨rfl, rfl⟩
          go_wp2_with fail
          go_ret
          exact ⟨rfl, BW⟩
/-- bits by their parts. -/
theorem bits_parts {B P W M E H : Nat} {low : Int} (hf : Fm B P W M E H low) (b : Nat) : b % (2 * H) = b / H % 2 * H + (b / M % (E + 1) * M + b % M) ∧ b / M % (E + 1) * M + b % M < H := by
  obtain ⟨e1, e2⟩ := hf.hlf
  have hM : 0 < M := by have := hf.bd; omega
  have h1 : b % H = b / M % (E + 1) * M + b % M := by
    rw [← e1, Nat.mod_mul, Nat.mul_comm M, Nat.add_comm]
  refine ⟨?_, by rw [← h1]; exact Nat.mod_lt _ (by have := hf.bd; omega)⟩
  rw [← h1, Nat.mul_comm 2 H, Nat.mod_mul, Nat.mul_comm H, Nat.add_comm]
theorem qts_high {B P W M E H : Nat} {low : Int} (hf : Fm B P W M E H low) (b : Nat) : b % (2 * H) / (M / 2) % 2 = b % M / (M / 2) % 2 := by
  obtain ⟨e1, e2⟩ := hf.hlf
  have hM : 0 < M / 2 := by have := hf.bd; omega
  rw [(bits_parts hf b).1]
  generalize b / H % 2 = s
  generalize b / M % (E + 1) = x
  generalize b % M = r
  generalize M / 2 = Q at *
  have h : s * H + (x * M + r) = r + Q * (2 * (s * (E + 1) + x)) := by
    have h1 : s * (2 * Q * (E + 1)) = 2 * (Q * (s * (E + 1))) := by ac_rfl
    have h2 : x * (2 * Q) = 2 * (Q * x) := by ac_rfl
    have h3 : Q * (2 * (s * (E + 1) + x)) = 2 * (Q * (s * (E + 1))) + 2 * (Q * x) := by rw [Nat.mul_left_comm, Nat.mul_add, Nat.mul_add]
    rw [← e1, e2, h1, h2, h3]
    omega
  rw [h, Nat.add_mul_div_left _ _ hM]
  omega
set_option maxHeartbeats 1000000 in
theorem rquieted_as {B P W M E H : Nat} {low : Int} (hf : Fm B P W M E H low) (b v : Nat) (hb : b < 18446744073709551616) (hv : qtS M H b = v) (w : World) :
    Calls Tryz.prog 55 #[.agg #[.int .i64 (B : Int), .int .i64 (P : Int), .int .i64 (W : Int)], .int .u64 (b : Int)] w fun e w' => e = .returned (.int .u64 (v : Int)) ∧ Below w.heap.size w w' := by
  obtain ⟨b1, b2, b3, b4, b5, b6, b7, b8, b9, b10, b11, b12, b13, b14, b15⟩ := hf.bd
  obtain ⟨p1, p2⟩ := bits_parts hf b
  unfold qtS at hv
  rw [qts_high hf b, p1] at hv
  obtain ⟨r, hr⟩ : ∃ r, b % M = r := ⟨_, rfl⟩
  obtain ⟨x, hx⟩ : ∃ x, b / M % (E + 1) = x := ⟨_, rfl⟩
  obtain ⟨s, hs⟩ : ∃ s, b / H % 2 = s := ⟨_, rfl⟩
  obtain ⟨y, hy⟩ : ∃ y, decide (¬ b < 2 * H) = y := ⟨_, rfl⟩
  obtain ⟨Q, hQ⟩ : ∃ Q, M / 2 = Q := ⟨_, rfl⟩
  have hr2 : r < M := by rw [← hr]; exact Nat.mod_lt _ (by omega)
  have hs2 : s < 2 := by rw [← hs]; exact Nat.mod_lt _ (by omega)
  have HT := Lib.hid (fun (V : World) => parts_as hf b s x r y hb hs hx hr hy V)
  have HQ := Lib.hid (fun (V : World) => power_as (P - 2) Q (by omega) (by rw [hf.pQ, hQ]) ((P : Int) - 2) (by omega) V)
  have hMQ := hf.hlf.2
  rw [hQ] at hMQ
  have hh := half_bit hMQ hr2
  obtain ⟨e1, _⟩ := hf.hlf
  rw [hr, hx, hs, hQ] at hv
  rw [hr, hx] at p2
  have hx2 : x < E + 1 := by rw [← hx]; exact Nat.mod_lt _ (by omega)
  have e6 : x * M + M ≤ H := by
    have h1 : (x + 1) * M ≤ (E + 1) * M := Nat.mul_le_mul_right _ (by omega)
    rw [Nat.add_mul, Nat.one_mul, Nat.mul_comm (E + 1), e1] at h1
    exact h1
  have hsg : ∀ t, s * H + t = sgn H (decide (s = 1)) t := fun t => by
    unfold sgn
    rcases Nat.lt_or_ge s 1 with h | h
    · obtain rfl : s = 0 := by omega
      simp
    · obtain rfl : s = 1 := by omega
      simp
  have q0 : ((s : Int) == 1) = decide (s = 1) := by rw [Bool.eq_iff_iff]; simp; omega
  by_cases c : r / Q % 2 = 1
  · rw [if_pos c] at hv
    have d1 : decide (r < Q) = false := decide_eq_false (by have := hh.1 c; omega)
    have HG := Lib.hid (fun (V : World) => build_as hf (decide (s = 1)) x r v p2 (by rw [← hsg, hv]) V)
    clear hv hf b1 hr hx hs hy hQ hMQ hh hsg c e1 e6 p1 p2
    go_enter Tryz.func55, Tryz.ntmps55
    go_wp2_with fail
    obtain ⟨V, hV, z0, BW, sW⟩ := fframe1 w 29 (B : Int) (P : Int) (W : Int)
    rw [hV]
    clear hV sW
    refine (HT.out _).mono ?_
    rintro en w1 ⟨rfl, b⟩
    replace z0 := z0.on b
    replace BW := Below.step BW b
    clear b
    obtain ⟨z0c0, z0c1, z0c2, z0f0, z0f1, z0f2, z0l⟩ := z0.cells
    go_wp2_with fail
    refine (HQ.out _).mono ?_
    rintro en w' ⟨rfl, rfl⟩
    go_wp2_with fail
    refine (HG.out _).mono ?_
    rintro en w2 ⟨rfl, b⟩
    clear z0c0 z0c1 z0c2 z0f0 z0f1 z0f2 z0l
    replace z0 := z0.on b
    replace BW := Below.step BW b
    clear b
    go_wp2_with fail
    go_ret
    exact ⟨rfl, BW⟩
  · rw [if_neg c] at hv
    have d1 : decide (r < Q) = true := decide_eq_true (by have := fun h => c (hh.2 h); omega)
    obtain ⟨t, ht⟩ : ∃ t, r + Q = t := ⟨_, rfl⟩
    have ht2 : t < M := by
      have := fun h => c (hh.2 h)
      omega
    have q1 : IntKind.u64.wrap ((r : Int) + (Q : Int)) = (t : Int) := by rw [← Int.natCast_add, ht]; exact wrap64_nat t (by omega)
    have HG := Lib.hid (fun (V : World) => build_as hf (decide (s = 1)) x t v (by omega) (by rw [← hsg, ← hv, ← ht]; omega) V)
    clear hv hf b1 hr hx hs hy hQ hMQ hh hsg c e1 e6 p1 p2 ht ht2
    go_enter Tryz.func55, Tryz.ntmps55
    go_wp2_with fail
    obtain ⟨V, hV, z0, BW, sW⟩ := fframe1 w 29 (B : Int) (P : Int) (W : Int)
    rw [hV]
    clear hV sW
    refine (HT.out _).mono ?_
    rintro en w1 ⟨rfl, b⟩
    replace z0 := z0.on b
    replace BW := Below.step BW b
    clear b
    obtain ⟨z0c0, z0c1, z0c2, z0f0, z0f1, z0f2, z0l⟩ := z0.cells
    go_wp2_with fail
    refine (HQ.out _).mono ?_
    rintro en w' ⟨rfl, rfl⟩
    go_wp2_with fail
    refine (HQ.out _).mono ?_
    rintro en w' ⟨rfl, rfl⟩
    go_wp2_with fail
    refine (HG.out _).mono ?_
    rintro en w2 ⟨rfl, b⟩
    clear z0c0 z0c1 z0c2 z0f0 z0f1 z0f2 z0l
    replace z0 := z0.on b
    replace BW := Below.step BW b
    clear b
    go_wp2_with fail
    go_ret
    exact ⟨rfl, BW⟩
theorem rof_16 (w : World) :
    Calls Tryz.prog 6 #[.int .i64 16] w fun e w' => e = .returned (.tuple #[.agg #[.int .i64 16, .int .i64 11, .int .i64 5], .int .i64 0]) ∧ Below w.heap.size w w' := by
  go_enter Tryz.func6, Tryz.ntmps6
  go_wp2_with fail
  obtain ⟨V, hV, z0, BW, sW⟩ := fframe1 w 29 16 11 5
  rw [hV]
  clear hV sW
  obtain ⟨z0c0, z0c1, z0c2, z0f0, z0f1, z0f2, z0l⟩ := z0.cells
  refine bodyPost_ret (v := .tuple #[.agg #[.int .i64 16, .int .i64 11, .int .i64 5], .int .i64 0]) (by simp [results, Tryz.results6, go_sem, z0c0, z0c1, z0c2]) rfl ⟨rfl, ?_⟩
  exact BW
theorem rof_32 (w : World) :
    Calls Tryz.prog 6 #[.int .i64 32] w fun e w' => e = .returned (.tuple #[.agg #[.int .i64 32, .int .i64 24, .int .i64 8], .int .i64 0]) ∧ Below w.heap.size w w' := by
  go_enter Tryz.func6, Tryz.ntmps6
  go_wp2_with fail
  obtain ⟨V, hV, z0, BW, sW⟩ := fframe1 w 29 32 24 8
  rw [hV]
  clear hV sW
  obtain ⟨z0c0, z0c1, z0c2, z0f0, z0f1, z0f2, z0l⟩ := z0.cells
  refine bodyPost_ret (v := .tuple #[.agg #[.int .i64 32, .int .i64 24, .int .i64 8], .int .i64 0]) (by simp [results, Tryz.results6, go_sem, z0c0, z0c1, z0c2]) rfl ⟨rfl, ?_⟩
  exact BW
theorem rof_64 (w : World) :
    Calls Tryz.prog 6 #[.int .i64 64] w fun e w' => e = .returned (.tuple #[.agg #[.int .i64 64, .int .i64 53, .int .i64 11], .int .i64 0]) ∧ Below w.heap.size w w' := by
  go_enter Tryz.func6, Tryz.ntmps6
  go_wp2_with fail
  obtain ⟨V, hV, z0, BW, sW⟩ := fframe1 w 29 64 53 11
  rw [hV]
  clear hV sW
  obtain ⟨z0c0, z0c1, z0c2, z0f0, z0f1, z0f2, z0l⟩ := z0.cells
  refine bodyPost_ret (v := .tuple #[.agg #[.int .i64 64, .int .i64 53, .int .i64 11], .int .i64 0]) (by simp [results, Tryz.results6, go_sem, z0c0, z0c1, z0c2]) rfl ⟨rfl, ?_⟩
  exact BW
theorem rof_bad (n : Int) (h1 : n ≠ 16) (h2 : n ≠ 32) (h3 : n ≠ 64) (w : World) :
    Calls Tryz.prog 6 #[.int .i64 n] w fun e w' => e = .returned (.tuple #[.agg #[.int .i64 0, .int .i64 0, .int .i64 0], .int .i64 1]) ∧ Below w.heap.size w w' := by
  have d0 : (n == (16 : Int)) = false := by simp; omega
  have d1 : (n == (32 : Int)) = false := by simp; omega
  have d2 : (n == (64 : Int)) = false := by simp; omega
  go_enter Tryz.func6, Tryz.ntmps6
  go_wp2_with fail
  obtain ⟨V, hV, z0, BW, sW⟩ := fframe1 w 29 0 0 0
  rw [hV]
  clear hV sW
  obtain ⟨z0c0, z0c1, z0c2, z0f0, z0f1, z0f2, z0l⟩ := z0.cells
  refine bodyPost_ret (v := .tuple #[.agg #[.int .i64 0, .int .i64 0, .int .i64 0], .int .i64 1]) (by simp [results, Tryz.results6, go_sem, z0c0, z0c1, z0c2]) rfl ⟨rfl, ?_⟩
  exact BW
theorem rof_fm {B P W M E H : Nat} {low : Int} (hf : Fm B P W M E H low) (w : World) :
    Calls Tryz.prog 6 #[.int .i64 (B : Int)] w fun e w' => e = .returned (.tuple #[.agg #[.int .i64 (B : Int), .int .i64 (P : Int), .int .i64 (W : Int)], .int .i64 0]) ∧ Below w.heap.size w w' := by
  rcases hf with ⟨rfl, rfl, rfl, rfl, rfl, rfl, rfl⟩ | ⟨rfl, rfl, rfl, rfl, rfl, rfl, rfl⟩ | ⟨rfl, rfl, rfl, rfl, rfl, rfl, rfl⟩
  · exact rof_16 w
  · exact rof_32 w
  · exact rof_64 w
end Go.Proofs.YtpachoeignpcbaaGreatDoor

namespace Go.Proofs.YtpachoeignpcbaaGreatDoor
open Go.RowKit
set_option linter.unusedVariables false

theorem rvalue_range {B P W M E H : Nat} {low : Int} (hf : Fm B P W M E H low) (b : Nat) (hb : b < 18446744073709551616) {w : World} (hm : ¬ b < 2 * H) :
    Calls Tryz.prog 36 #[.agg #[.int .i64 (B : Int), .int .i64 (P : Int), .int .i64 (W : Int)], .int .u64 (b : Int)] w (RDx w false 0 0 3) := by
  obtain ⟨b1, b2, b3, b4, b5, b6, b7, b8, b9, b10, b11, b12, b13, b14, b15⟩ := hf.bd
  obtain ⟨r, hr⟩ : ∃ r, b % M = r := ⟨_, rfl⟩
  obtain ⟨x, hx⟩ : ∃ x, b / M % (E + 1) = x := ⟨_, rfl⟩
  obtain ⟨s, hs⟩ : ∃ s, b / H % 2 = s := ⟨_, rfl⟩
  have hr2 : r < M := by rw [← hr]; exact Nat.mod_lt _ (by omega)
  have hx3 : x < E + 1 := by rw [← hx]; exact Nat.mod_lt _ (by omega)
  have HT := Lib.hid (fun (V : World) => parts_as hf b s x r true hb hs hx hr (decide_eq_true hm) V)
  clear hm hf b1 hr hx hs
  go_enter Tryz.func36, Tryz.ntmps36
  go_wp2_with fail
  obtain ⟨V, hV, z0, z1, BW, sW⟩ := fframe2 w 29 71 (B : Int) (P : Int) (W : Int) false none 0 0 0
  rw [hV]
  clear hV sW
  refine (HT.out _).mono ?_
  rintro en w1 ⟨rfl, b⟩
  replace z0 := z0.on b
  replace z1 := z1.on b
  replace BW := Below.step BW b
  clear b
  obtain ⟨z0c0, z0c1, z0c2, z0f0, z0f1, z0f2, z0l⟩ := z0.cells
  obtain ⟨z1c0, z1c1, z1c2, z1f0, z1f1, z1f2, z1l⟩ := z1.cells
  go_wp2_with fail
  refine bodyPost_ret (v := .tuple #[.agg #[.bool false, .slice none 0 0, .int .i64 0], .int .i64 3]) (by simp [results, Tryz.results36, go_sem, z1c0, z1c1, z1c2]) rfl ?_
  exact ⟨none, 0, 0, rfl, BR.none_ _, below_put3 BW (by omega) _ _ _⟩
theorem rvalue_arg {B P W M E H : Nat} {low : Int} (hf : Fm B P W M E H low) (b : Nat) (hb : b < 18446744073709551616) {w : World} (hm : b < 2 * H) (hi : b / M % (E + 1) = E) :
    Calls Tryz.prog 36 #[.agg #[.int .i64 (B : Int), .int .i64 (P : Int), .int .i64 (W : Int)], .int .u64 (b : Int)] w (RDx w false 0 0 1) := by
  obtain ⟨b1, b2, b3, b4, b5, b6, b7, b8, b9, b10, b11, b12, b13, b14, b15⟩ := hf.bd
  obtain ⟨r, hr⟩ : ∃ r, b % M = r := ⟨_, rfl⟩
  obtain ⟨x, hx⟩ : ∃ x, b / M % (E + 1) = x := ⟨_, rfl⟩
  obtain ⟨s, hs⟩ : ∃ s, b / H % 2 = s := ⟨_, rfl⟩
  have hr2 : r < M := by rw [← hr]; exact Nat.mod_lt _ (by omega)
  have hx3 : x < E + 1 := by rw [← hx]; exact Nat.mod_lt _ (by omega)
  have HT := Lib.hid (fun (V : World) => parts_as hf b s x r false hb hs hx hr (decide_eq_false (fun h => h hm)) V)
  obtain ⟨v, hv⟩ : ∃ v, clsS M E b = v := ⟨_, rfl⟩
  have HC := Lib.hid (fun (V : World) => rclass_as hf b v hb hv V)
  have d1 : decide (2 < v) = true := decide_eq_true (by rcases cls_inf hi (by omega) with h | h | h <;> omega)
  clear hm hf b1 hr hx hs hi hv
  go_enter Tryz.func36, Tryz.ntmps36
  go_wp2_with fail
  obtain ⟨V, hV, z0, z1, BW, sW⟩ := fframe2 w 29 71 (B : Int) (P : Int) (W : Int) false none 0 0 0
  rw [hV]
  clear hV sW
  refine (HT.out _).mono ?_
  rintro en w1 ⟨rfl, b⟩
  replace z0 := z0.on b
  replace z1 := z1.on b
  replace BW := Below.step BW b
  clear b
  obtain ⟨z0c0, z0c1, z0c2, z0f0, z0f1, z0f2, z0l⟩ := z0.cells
  obtain ⟨z1c0, z1c1, z1c2, z1f0, z1f1, z1f2, z1l⟩ := z1.cells
  go_wp2_with fail
  refine (HC.out _).mono ?_
  rintro en w2 ⟨rfl, b⟩
  clear z0c0 z0c1 z0c2 z0f0 z0f1 z0f2 z0l z1c0 z1c1 z1c2 z1f0 z1f1 z1f2 z1l
  replace z0 := z0.on b
  replace z1 := z1.on b
  replace BW := Below.step BW b
  clear b
  obtain ⟨z0c0, z0c1, z0c2, z0f0, z0f1, z0f2, z0l⟩ := z0.cells
  obtain ⟨z1c0, z1c1, z1c2, z1f0, z1f1, z1f2, z1l⟩ := z1.cells
  go_wp2_with fail
  refine bodyPost_ret (v := .tuple #[.agg #[.bool false, .slice none 0 0, .int .i64 0], .int .i64 1]) (by simp [results, Tryz.results36, go_sem, z1c0, z1c1, z1c2]) rfl ?_
  exact ⟨none, 0, 0, rfl, BR.none_ _, below_put3 BW (by omega) _ _ _⟩
set_option maxHeartbeats 1000000 in
theorem rvalue_sub {B P W M E H : Nat} {low : Int} (hf : Fm B P W M E H low) (b : Nat) (hb : b < 18446744073709551616) {w : World} (hm : b < 2 * H) (h0 : b / M % (E + 1) = 0) {dn : Bool} {dx : Nat} {de : Int} (hd : D.pl ⟨decide (b / H % 2 = 1), b % M, low⟩ = ⟨dn, dx, de⟩) :
    Calls Tryz.prog 36 #[.agg #[.int .i64 (B : Int), .int .i64 (P : Int), .int .i64 (W : Int)], .int .u64 (b : Int)] w (RDx w dn dx de 0) := by
  obtain ⟨b1, b2, b3, b4, b5, b6, b7, b8, b9, b10, b11, b12, b13, b14, b15⟩ := hf.bd
  obtain ⟨r, hr⟩ : ∃ r, b % M = r := ⟨_, rfl⟩
  obtain ⟨x, hx⟩ : ∃ x, b / M % (E + 1) = x := ⟨_, rfl⟩
  obtain ⟨s, hs⟩ : ∃ s, b / H % 2 = s := ⟨_, rfl⟩
  have hr2 : r < M := by rw [← hr]; exact Nat.mod_lt _ (by omega)
  have hx3 : x < E + 1 := by rw [← hx]; exact Nat.mod_lt _ (by omega)
  have HT := Lib.hid (fun (V : World) => parts_as hf b s x r false hb hs hx hr (decide_eq_false (fun h => h hm)) V)
  obtain ⟨v, hv⟩ : ∃ v, clsS M E b = v := ⟨_, rfl⟩
  have HC := Lib.hid (fun (V : World) => rclass_as hf b v hb hv V)
  have d1 : decide (2 < v) = false := decide_eq_false (by rcases cls_sub h0 with h | h <;> omega)
  have d2 : (v == 2) = false := by simp; rcases cls_sub h0 with h | h <;> omega
  have HL := Lib.hid (fun (V : World) => rlow_as hf low rfl V)
  obtain ⟨n, hn0⟩ : ∃ n, r = n := ⟨_, rfl⟩
  have hn : n < 18446744073709551616 := by omega
  have hnl : blen n ≤ 64 := (blen_le n 64).2 (by omega)
  rw [hs, hr, hn0] at hd
  have HD := Lib.hid hd
  have q0 : ((s : Int) == 1) = decide (s = 1) := by rw [Bool.eq_iff_iff]; simp; omega
  clear hm hf b1 hr hx hs h0 hv hd
  subst hn0
  go_enter Tryz.func36, Tryz.ntmps36
  go_wp2_with fail
  obtain ⟨V, hV, z0, z1, BW, sW⟩ := fframe2 w 29 71 (B : Int) (P : Int) (W : Int) false none 0 0 0
  rw [hV]
  clear hV sW
  refine (HT.out _).mono ?_
  rintro en w1 ⟨rfl, b⟩
  replace z0 := z0.on b
  replace z1 := z1.on b
  replace BW := Below.step BW b
  clear b
  obtain ⟨z0c0, z0c1, z0c2, z0f0, z0f1, z0f2, z0l⟩ := z0.cells
  obtain ⟨z1c0, z1c1, z1c2, z1f0, z1f1, z1f2, z1l⟩ := z1.cells
  go_wp2_with fail
  refine (HC.out _).mono ?_
  rintro en w2 ⟨rfl, b⟩
  clear z0c0 z0c1 z0c2 z0f0 z0f1 z0f2 z0l z1c0 z1c1 z1c2 z1f0 z1f1 z1f2 z1l
  replace z0 := z0.on b
  replace z1 := z1.on b
  replace BW := Below.step BW b
  clear b
  obtain ⟨z0c0, z0c1, z0c2, z0f0, z0f1, z0f2, z0l⟩ := z0.cells
  obtain ⟨z1c0, z1c1, z1c2, z1f0, z1f1, z1f2, z1l⟩ := z1.cells
  go_wp2_with fail
  clear z0c0 z0c1 z0c2 z0f0 z0f1 z0f2 z0l z1c0 z1c1 z1c2 z1f0 z1f1 z1f2 z1l
  replace z0 := z0.on ((Below.refl _ _).drew : Below w2.heap.size w2 w2.drew)
  replace z1 := z1.on ((Below.refl _ _).drew : Below w2.heap.size w2 w2.drew)
  replace BW := Lib.hid (Below.step BW ((Below.refl _ _).drew : Below w2.heap.size w2 w2.drew))
  go_region_held3 (fun w' => w'.cell? ⟨w.heap.size, 0, none⟩ = some (.int .i64 (B : Int)) ∧ w'.cell? ⟨w.heap.size, 1, none⟩ = some (.int .i64 (P : Int)) ∧ w'.cell? ⟨w.heap.size, 2, none⟩ = some (.int .i64 (W : Int)))
    ((first | exact ⟨z0.cells.1, z0.cells.2.1, z0.cells.2.2.1⟩ | exact ⟨(z0.other (s := w.heap.size + 1) (by omega) (.bool dn) (.slice V_rd v_rd c_rd) (.int .i64 de)).cells.1, (z0.other (s := w.heap.size + 1) (by omega) (.bool dn) (.slice V_rd v_rd c_rd) (.int .i64 de)).cells.2.1, (z0.other (s := w.heap.size + 1) (by omega) (.bool dn) (.slice V_rd v_rd c_rd) (.int .i64 de)).cells.2.2.1⟩))
    (first
      | (go_at_call 57
         (with_reducible refine (rword_any r hn _).mono ?_)
         rintro en w3 ⟨V_rn, v_rn, c_rn, rfl, rn, b⟩
         replace z0 := z0.on b
         replace z1 := z1.on b
         replace BW := Lib.hid (Below.step BW.out b)
         clear b)
      | (go_at_call 58
         (with_reducible refine (HL.out _).mono ?_)
         rintro en w4 ⟨rfl, b⟩
         replace z0 := z0.on b
         replace z1 := z1.on b
         replace rn := rn.on b
         replace BW := Lib.hid (Below.step BW.out b)
         clear b)
      | (go_at_call 56
         (with_reducible refine (rplain_any rn (rn.le (Nat.le_trans hnl (by omega))) (by omega) (by omega) HD.out).mono ?_)
         rintro en w5 ⟨V_rd, v_rd, c_rd, rfl, rd, b⟩
         replace z0 := z0.on b
         replace z1 := z1.on b
         replace rn := rn.on b
         replace BW := Lib.hid (Below.step BW.out b)
         obtain ⟨z1c0, z1c1, z1c2, z1f0, z1f1, z1f2, z1l⟩ := z1.cells
         clear b))
  replace BW := BW.out
  go_wp2_with fail
  refine bodyPost_ret (v := .tuple #[.agg #[.bool dn, .slice V_rd v_rd c_rd, .int .i64 de], .int .i64 0]) (by simp [results, Tryz.results36, go_sem, z1c0, z1c1, z1c2]) rfl ?_
  exact ⟨V_rd, v_rd, c_rd, rfl, z1.br (by decide) rd _ _ _, below_put3 BW (by omega) _ _ _⟩
set_option maxHeartbeats 1000000 in
theorem rvalue_norm {B P W M E H : Nat} {low : Int} (hf : Fm B P W M E H low) (b : Nat) (hb : b < 18446744073709551616) {w : World} (hm : b < 2 * H) (h0 : b / M % (E + 1) ≠ 0) (h02 : b / M % (E + 1) ≠ E) {dn : Bool} {dx : Nat} {de : Int} (hd : D.pl ⟨decide (b / H % 2 = 1), M + b % M, low + ((b / M % (E + 1) : Nat) : Int) - 1⟩ = ⟨dn, dx, de⟩) :
    Calls Tryz.prog 36 #[.agg #[.int .i64 (B : Int), .int .i64 (P : Int), .int .i64 (W : Int)], .int .u64 (b : Int)] w (RDx w dn dx de 0) := by
  obtain ⟨b1, b2, b3, b4, b5, b6, b7, b8, b9, b10, b11, b12, b13, b14, b15⟩ := hf.bd
  obtain ⟨r, hr⟩ : ∃ r, b % M = r := ⟨_, rfl⟩
  obtain ⟨x, hx⟩ : ∃ x, b / M % (E + 1) = x := ⟨_, rfl⟩
  obtain ⟨s, hs⟩ : ∃ s, b / H % 2 = s := ⟨_, rfl⟩
  have hr2 : r < M := by rw [← hr]; exact Nat.mod_lt _ (by omega)
  have hx3 : x < E + 1 := by rw [← hx]; exact Nat.mod_lt _ (by omega)
  have HT := Lib.hid (fun (V : World) => parts_as hf b s x r false hb hs hx hr (decide_eq_false (fun h => h hm)) V)
  have HC := Lib.hid (fun (V : World) => rclass_as hf b 2 hb (cls_norm h0 h02) V)
  have HL := Lib.hid (fun (V : World) => rlow_as hf low rfl V)
  have HP := Lib.hid (fun (V : World) => power_b (P - 1) M (by omega) hf.pP ((P : Int) - 1) (by omega) V)
  obtain ⟨n, hn0⟩ : ∃ n, M + r = n := ⟨_, rfl⟩
  have hn : n < 18446744073709551616 := by omega
  have hnl : blen n ≤ 64 := (blen_le n 64).2 (by omega)
  obtain ⟨q, hq⟩ : ∃ q : Int, low + (x : Int) - 1 = q := ⟨_, rfl⟩
  have hq1 : -1000000 ≤ q := by omega
  have hq2 : q ≤ 1000000 := by omega
  rw [hs, hr, hn0, hx, hq] at hd
  have HD := Lib.hid hd
  have q0 : ((s : Int) == 1) = decide (s = 1) := by rw [Bool.eq_iff_iff]; simp; omega
  have q1 : IntKind.u64.wrap ((M : Int) + (r : Int)) = (n : Int) := by rw [← Int.natCast_add, hn0]; exact wrap64_nat n (by omega)
  have q2 : IntKind.i64.wrap ((P : Int) - 1) = (P : Int) - 1 := IntWalk.i64_in _ (by omega)
  have q3 : IntKind.i64.wrap (x : Int) = (x : Int) := IntWalk.i64_in _ (by omega)
  have q4 : IntKind.i64.wrap (low + (x : Int)) = low + (x : Int) := IntWalk.i64_in _ (by omega)
  have q5 : IntKind.i64.wrap (low + (x : Int) - 1) = q := by rw [IntWalk.i64_in _ (by omega)]; exact hq
  clear hm hf b1 hr hx hs h0 h02 hd hn0 hq
  go_enter Tryz.func36, Tryz.ntmps36
  go_wp2_with fail
  obtain ⟨V, hV, z0, z1, BW, sW⟩ := fframe2 w 29 71 (B : Int) (P : Int) (W : Int) false none 0 0 0
  rw [hV]
  clear hV sW
  refine (HT.out _).mono ?_
  rintro en w1 ⟨rfl, b⟩
  replace z0 := z0.on b
  replace z1 := z1.on b
  replace BW := Below.step BW b
  clear b
  obtain ⟨z0c0, z0c1, z0c2, z0f0, z0f1, z0f2, z0l⟩ := z0.cells
  obtain ⟨z1c0, z1c1, z1c2, z1f0, z1f1, z1f2, z1l⟩ := z1.cells
  go_wp2_with fail
  refine (HC.out _).mono ?_
  rintro en w2 ⟨rfl, b⟩
  clear z0c0 z0c1 z0c2 z0f0 z0f1 z0f2 z0l z1c0 z1c1 z1c2 z1f0 z1f1 z1f2 z1l
  replace z0 := z0.on b
  replace z1 := z1.on b
  replace BW := Below.step BW b
  clear b
  obtain ⟨z0c0, z0c1, z0c2, z0f0, z0f1, z0f2, z0l⟩ := z0.cells
  obtain ⟨z1c0, z1c1, z1c2, z1f0, z1f1, z1f2, z1l⟩ := z1.cells
  go_wp2_with fail
  clear z0c0 z0c1 z0c2 z0f0 z0f1 z0f2 z0l z1c0 z1c1 z1c2 z1f0 z1f1 z1f2 z1l
  replace z0 := z0.on ((Below.refl _ _).drew : Below w2.heap.size w2 w2.drew)
  replace z1 := z1.on ((Below.refl _ _).drew : Below w2.heap.size w2 w2.drew)
  replace BW := Lib.hid (Below.step BW ((Below.refl _ _).drew : Below w2.heap.size w2 w2.drew))
  go_region_held3 (fun w' => w'.cell? ⟨w.heap.size, 0, none⟩ = some (.int .i64 (B : Int)) ∧ w'.cell? ⟨w.heap.size, 1, none⟩ = some (.int .i64 (P : Int)) ∧ w'.cell? ⟨w.heap.size, 2, none⟩ = some (.int .i64 (W : Int)))
    ((first | exact ⟨z0.cells.1, z0.cells.2.1, z0.cells.2.2.1⟩ | exact ⟨(z0.other (s := w.heap.size + 1) (by omega) (.bool dn) (.slice V_rd v_rd c_rd) (.int .i64 de)).cells.1, (z0.other (s := w.heap.size + 1) (by omega) (.bool dn) (.slice V_rd v_rd c_rd) (.int .i64 de)).cells.2.1, (z0.other (s := w.heap.size + 1) (by omega) (.bool dn) (.slice V_rd v_rd c_rd) (.int .i64 de)).cells.2.2.1⟩))
    (first
      | (go_at_call 50
         (with_reducible refine (HP.out _).mono ?_)
         rintro en w3 ⟨rfl, b⟩
         replace z0 := z0.on b
         replace z1 := z1.on b
         replace BW := Lib.hid (Below.step BW.out b)
         clear b)
      | (go_at_call 57
         (with_reducible refine (rword_any n hn _).mono ?_)
         rintro en w4 ⟨V_rn, v_rn, c_rn, rfl, rn, b⟩
         replace z0 := z0.on b
         replace z1 := z1.on b
         replace BW := Lib.hid (Below.step BW.out b)
         clear b)
      | (go_at_call 58
         (with_reducible refine (HL.out _).mono ?_)
         rintro en w5 ⟨rfl, b⟩
         replace z0 := z0.on b
         replace z1 := z1.on b
         replace rn := rn.on b
         replace BW := Lib.hid (Below.step BW.out b)
         clear b)
      | (go_at_call 56
         (with_reducible refine (rplain_any rn (rn.le (Nat.le_trans hnl (by omega))) hq1 hq2 HD.out).mono ?_)
         rintro en w6 ⟨V_rd, v_rd, c_rd, rfl, rd, b⟩
         replace z0 := z0.on b
         replace z1 := z1.on b
         replace rn := rn.on b
         replace BW := Lib.hid (Below.step BW.out b)
         obtain ⟨z1c0, z1c1, z1c2, z1f0, z1f1, z1f2, z1l⟩ := z1.cells
         clear b))
  replace BW := BW.out
  go_wp2_with fail
  refine bodyPost_ret (v := .tuple #[.agg #[.bool dn, .slice V_rd v_rd c_rd, .int .i64 de], .int .i64 0]) (by simp [results, Tryz.results36, go_sem, z1c0, z1c1, z1c2]) rfl ?_
  exact ⟨V_rd, v_rd, c_rd, rfl, z1.br (by decide) rd _ _ _, below_put3 BW (by omega) _ _ _⟩
theorem rvalue_as {B P W M E H : Nat} {low : Int} (hf : Fm B P W M E H low) (b : Nat) (hb : b < 18446744073709551616) {w : World} {rn : Bool} {rx : Nat} {re err : Int} (hr : valS M E H low b = (⟨rn, rx, re⟩, err)) :
    Calls Tryz.prog 36 #[.agg #[.int .i64 (B : Int), .int .i64 (P : Int), .int .i64 (W : Int)], .int .u64 (b : Int)] w (RDx w rn rx re err) := by
  unfold valS at hr
  by_cases hm : b < 2 * H
  · rw [if_pos hm] at hr
    by_cases hx : b / M % (E + 1) = E
    · rw [if_pos hx] at hr
      simp only [Prod.mk.injEq, D.mk.injEq] at hr
      obtain ⟨⟨rfl, rfl, rfl⟩, rfl⟩ := hr
      exact rvalue_arg hf b hb hm hx
    · rw [if_neg hx] at hr
      simp only [Prod.mk.injEq] at hr
      obtain ⟨hd, rfl⟩ := hr
      unfold valN valP at hd
      by_cases h0 : b / M % (E + 1) = 0
      · rw [if_pos h0, if_pos h0] at hd
        exact rvalue_sub hf b hb hm h0 hd
      · rw [if_neg h0, if_neg h0] at hd
        exact rvalue_norm hf b hb hm h0 hx hd
  · rw [if_neg hm] at hr
    simp only [Prod.mk.injEq, D.mk.injEq] at hr
    obtain ⟨⟨rfl, rfl, rfl⟩, rfl⟩ := hr
    exact rvalue_range hf b hb hm
end Go.Proofs.YtpachoeignpcbaaGreatDoor

namespace Go.Proofs.YtpachoeignpcbaaGreatDoor
open Go.RowKit
set_option linter.unusedVariables false

theorem rleft_as {A : Option Addr} {n c x : Nat} {w : World} (h : BR w A n c x) (hn : n ≤ 1000000) (i : Nat) (hi : i ≤ 1000000) {y : Nat} (hy : x * 2 ^ i = y) :
    Calls Tryz.prog 98 #[.slice A n c, .int .i64 i] w (BitsPost w y) := hy ▸ rleft_fit h hn i hi
theorem rput_range {B P W M E H : Nat} {low : Int} (hf : Fm B P W M E H low) {A : Option Addr} {n c x : Nat} {neg : Bool} {e : Int} {w : World} (h : BR w A n c x) (hs : n ≤ 100000) (hm : D.may ⟨neg, x, e⟩ = false) :
    Calls Tryz.prog 73 #[.agg #[.int .i64 (B : Int), .int .i64 (P : Int), .int .i64 (W : Int)], .agg #[.bool neg, .slice A n c, .int .i64 e]] w fun en w' => en = .returned (.tuple #[.int .u64 0, .int .i64 3]) ∧ Below w.heap.size w w' := by
  obtain ⟨b1, b2, b3, b4, b5, b6, b7, b8, b9, b10, b11, b12, b13, b14, b15⟩ := hf.bd
  have HM := Lib.hid hm
  clear hm hf b1
  go_enter Tryz.func73, Tryz.ntmps73
  go_wp2_with fail
  obtain ⟨V, hV, z0, z1, BW, sW⟩ := fframe2 w 29 71 (B : Int) (P : Int) (W : Int) neg A n c e
  rw [hV]
  clear hV sW
  replace h := h.on BW
  refine (rmay_any false h (by omega) HM.out).mono ?_
  rintro en w1 ⟨rfl, b⟩
  replace z0 := z0.on b
  replace z1 := z1.on b
  replace h := h.on b
  replace BW := Below.step BW b
  clear b
  obtain ⟨z0c0, z0c1, z0c2, z0f0, z0f1, z0f2, z0l⟩ := z0.cells
  obtain ⟨z1c0, z1c1, z1c2, z1f0, z1f1, z1f2, z1l⟩ := z1.cells
  go_wp2_with fail
  refine bodyPost_ret (v := .tuple #[.int .u64 0, .int .i64 3]) (by simp [results, Tryz.results73, go_sem]) rfl ⟨rfl, BW⟩
theorem rput_zero {B P W M E H : Nat} {low : Int} (hf : Fm B P W M E H low) {A : Option Addr} {n c x : Nat} {neg : Bool} {e : Int} {w : World} (h : BR w A n c x) (hs : n ≤ 100000) (hm : D.may ⟨neg, x, e⟩ = true) (h0 : x = 0) :
    Calls Tryz.prog 73 #[.agg #[.int .i64 (B : Int), .int .i64 (P : Int), .int .i64 (W : Int)], .agg #[.bool neg, .slice A n c, .int .i64 e]] w fun en w' => en = .returned (.tuple #[.int .u64 0, .int .i64 0]) ∧ Below w.heap.size w w' := by
  obtain ⟨b1, b2, b3, b4, b5, b6, b7, b8, b9, b10, b11, b12, b13, b14, b15⟩ := hf.bd
  obtain ⟨m1, m2, m3⟩ := (D.may_iff _).1 hm
  simp only at m1 m2 m3
  have HM := Lib.hid hm
  have HD : Hid (D.pl ⟨neg, x, e⟩ = ⟨false, 0, 0⟩) := by rw [D.pl_zero h0]; exact Lib.hid rfl
  clear hm hf b1 h0
  go_enter Tryz.func73, Tryz.ntmps73
  go_wp2_with fail
  obtain ⟨V, hV, z0, z1, BW, sW⟩ := fframe2 w 29 71 (B : Int) (P : Int) (W : Int) neg A n c e
  rw [hV]
  clear hV sW
  replace h := h.on BW
  refine (rmay_any true h (by omega) HM.out).mono ?_
  rintro en w1 ⟨rfl, b⟩
  replace z0 := z0.on b
  replace z1 := z1.on b
  replace h := h.on b
  replace BW := Below.step BW b
  clear b
  obtain ⟨z0c0, z0c1, z0c2, z0f0, z0f1, z0f2, z0l⟩ := z0.cells
  obtain ⟨z1c0, z1c1, z1c2, z1f0, z1f1, z1f2, z1l⟩ := z1.cells
  go_wp2_with fail
  refine (rplain_any h (by omega) (by omega) (by omega) HD.out).mono ?_
  rintro en w2 ⟨V_rd, v_rd, c_rd, rfl, rd, b⟩
  clear z0c0 z0c1 z0c2 z0f0 z0f1 z0f2 z0l z1c0 z1c1 z1c2 z1f0 z1f1 z1f2 z1l
  replace z0 := z0.on b
  replace z1 := z1.on b
  replace h := h.on b
  replace BW := Below.step BW b
  clear b
  have hv := rd.size
  obtain rfl : v_rd = 0 := hv
  obtain ⟨z0c0, z0c1, z0c2, z0f0, z0f1, z0f2, z0l⟩ := z0.cells
  obtain ⟨z1c0, z1c1, z1c2, z1f0, z1f1, z1f2, z1l⟩ := z1.cells
  go_wp2_with fail
  refine bodyPost_ret (v := .tuple #[.int .u64 0, .int .i64 0]) (by simp [results, Tryz.results73, go_sem]) rfl ⟨rfl, Below.step BW (below_lit _ _)⟩
set_option maxHeartbeats 1000000 in
theorem rput_low_none {B P W M E H : Nat} {low : Int} (hf : Fm B P W M E H low) {A : Option Addr} {n c x : Nat} {neg : Bool} {e : Int} {w : World} (h : BR w A n c x) (hs : n ≤ 100000) (hm : D.may ⟨neg, x, e⟩ = true) (h0 : x ≠ 0) {t : Int} (ht : (blen x : Int) - 1 + e = t) {dn : Bool} {dx : Nat} {de : Int} (hd : D.pl ⟨neg, x, e⟩ = ⟨dn, dx, de⟩) (hl : ¬ low + (P : Int) - 1 < t) (hk : de < low) :
    Calls Tryz.prog 73 #[.agg #[.int .i64 (B : Int), .int .i64 (P : Int), .int .i64 (W : Int)], .agg #[.bool neg, .slice A n c, .int .i64 e]] w fun en w' => en = .returned (.tuple #[.int .u64 0, .int .i64 10]) ∧ Below w.heap.size w w' := by
  obtain ⟨b1, b2, b3, b4, b5, b6, b7, b8, b9, b10, b11, b12, b13, b14, b15⟩ := hf.bd
  obtain ⟨m1, m2, m3⟩ := (D.may_iff _).1 hm
  simp only at m1 m2 m3
  obtain ⟨p1, p2, p3, p4, p5⟩ := pl_bounds hm
  have htd : de + (blen dx : Int) - 1 = t := by
    have h1 := D.pl_pos (d := ⟨neg, x, e⟩) h0
    rw [hd] at h1
    simp only [D.mk.injEq] at h1
    obtain ⟨_, h2, h3⟩ := h1
    have h4 := blen_div_tz h0
    rw [h2, h3, ← ht]
    omega
  have hdx : dx ≠ 0 := by
    have h1 := D.pl_pos (d := ⟨neg, x, e⟩) h0
    rw [hd] at h1
    simp only [D.mk.injEq] at h1
    have h3 := (tz_blen h0).2.2
    rw [← h1.2.1] at h3
    omega
  have hdl := (blen_pos hdx).2
  rw [hd] at p1 p2 p3 p4
  simp only at p1 p2 p3 p4
  clear p5
  have HM := Lib.hid hm
  have HD := Lib.hid hd
  have HL := Lib.hid (fun (V : World) => rlow_as hf low rfl V)
  have HW := Lib.hid (fun (V : World) => power_as W (E + 1) (by omega) hf.pW (W : Int) rfl V)
  have HP := Lib.hid (fun (V : World) => power_as (P - 1) M (by omega) hf.pP ((P : Int) - 1) (by omega) V)
  have q1 : IntKind.i64.wrap (low + (P : Int)) = low + (P : Int) := IntWalk.i64_in _ (by omega)
  have q2 : IntKind.i64.wrap (low + (P : Int) - 1) = low + (P : Int) - 1 := IntWalk.i64_in _ (by omega)
  have d1 : decide (low + (P : Int) - 1 < t) = false := decide_eq_false hl
  have d2 : decide (E ≤ 1) = false := decide_eq_false (by omega)
  have d2' : decide ((E : Int) ≤ 1) = false := decide_eq_false (by omega)
  have d3 : decide (de < low) = true := decide_eq_true hk
  clear hm hf b1 hd ht h0 hdx hl hk
  go_enter Tryz.func73, Tryz.ntmps73
  go_wp2_with fail
  obtain ⟨V, hV, z0, z1, BW, sW⟩ := fframe2 w 29 71 (B : Int) (P : Int) (W : Int) neg A n c e
  rw [hV]
  clear hV sW
  replace h := h.on BW
  refine (rmay_any true h (by omega) HM.out).mono ?_
  rintro en w1 ⟨rfl, b⟩
  replace z0 := z0.on b
  replace z1 := z1.on b
  replace h := h.on b
  replace BW := Below.step BW b
  clear b
  obtain ⟨z0c0, z0c1, z0c2, z0f0, z0f1, z0f2, z0l⟩ := z0.cells
  obtain ⟨z1c0, z1c1, z1c2, z1f0, z1f1, z1f2, z1l⟩ := z1.cells
  go_wp2_with fail
  refine (rplain_any h (by omega) (by omega) (by omega) HD.out).mono ?_
  rintro en w2 ⟨V_rd, v_rd, c_rd, rfl, rd, b⟩
  clear z0c0 z0c1 z0c2 z0f0 z0f1 z0f2 z0l z1c0 z1c1 z1c2 z1f0 z1f1 z1f2 z1l
  replace z0 := z0.on b
  replace z1 := z1.on b
  replace h := h.on b
  replace BW := Below.step BW b
  clear b
  have hv := rd.size
  have d0 : ((v_rd : Int) == 0) = false := by simp; omega
  have qt : de + (v_rd : Int) - 1 = t := by rw [hv]; exact htd
  have hvl : v_rd ≤ 4096 := by omega
  clear hv htd
  obtain ⟨z0c0, z0c1, z0c2, z0f0, z0f1, z0f2, z0l⟩ := z0.cells
  obtain ⟨z1c0, z1c1, z1c2, z1f0, z1f1, z1f2, z1l⟩ := z1.cells
  go_wp2_with fail
  clear z0c0 z0c1 z0c2 z0f0 z0f1 z0f2 z0l z1c0 z1c1 z1c2 z1f0 z1f1 z1f2 z1l
  obtain ⟨w3, e_w3⟩ : ∃ w', w2.alloc (dob dn V_rd v_rd c_rd de 71) = w' := ⟨_, rfl⟩
  have b : Below w2.heap.size w2 w3 := e_w3 ▸ below_lit _ _
  have hs_w3 : w3.heap.size = w2.heap.size + 1 := e_w3 ▸ size_lit w2 _ rfl
  have zp : DB w3 w2.heap.size 71 dn V_rd v_rd c_rd de := e_w3 ▸ DB.made w2 rfl 71 dn V_rd v_rd c_rd de
  rw [e_w3]
  clear e_w3
  replace z0 := z0.on b
  replace z1 := z1.on b
  replace h := h.on b
  replace rd := rd.on b
  replace BW := Below.step BW b
  clear b
  replace z0 := z0.on ((Below.refl _ _).drew : Below w3.heap.size w3 w3.drew)
  replace z1 := z1.on ((Below.refl _ _).drew : Below w3.heap.size w3 w3.drew)
  replace h := h.on ((Below.refl _ _).drew : Below w3.heap.size w3 w3.drew)
  replace rd := rd.on ((Below.refl _ _).drew : Below w3.heap.size w3 w3.drew)
  replace zp := zp.on ((Below.refl _ _).drew : Below w3.heap.size w3 w3.drew)
  replace BW := Lib.hid (Below.step BW ((Below.refl _ _).drew : Below w3.heap.size w3 w3.drew))
  go_region_held3 (fun w' => w'.cell? ⟨w.heap.size, 0, none⟩ = some (.int .i64 (B : Int)) ∧ w'.cell? ⟨w.heap.size, 1, none⟩ = some (.int .i64 (P : Int)) ∧ w'.cell? ⟨w.heap.size, 2, none⟩ = some (.int .i64 (W : Int)))
    ((first | exact ⟨z0.cells.1, z0.cells.2.1, z0.cells.2.2.1⟩))
    (first
      | (go_at_call 58
         (with_reducible refine (HL.out _).mono ?_)
         rintro en w4 ⟨rfl, b⟩
         replace z0 := z0.on b
         replace z1 := z1.on b
         replace h := h.on b
         replace rd := rd.on b
         replace zp := zp.on b
         replace BW := Lib.hid (Below.step BW.out b)
         clear b))
  replace BW := BW.out
  go_wp2_with fail
  obtain ⟨z0c0, z0c1, z0c2, z0f0, z0f1, z0f2, z0l⟩ := z0.cells
  go_wp2_with fail
  refine (HW.out _).mono ?_
  rintro en w' ⟨rfl, rfl⟩
  go_wp2_with fail
  refine (HL.out _).mono ?_
  rintro en w5 ⟨rfl, b⟩
  clear z0c0 z0c1 z0c2 z0f0 z0f1 z0f2 z0l
  replace z0 := z0.on b
  replace z1 := z1.on b
  replace h := h.on b
  replace rd := rd.on b
  replace zp := zp.on b
  replace BW := Below.step BW b
  clear b
  obtain ⟨z0c0, z0c1, z0c2, z0f0, z0f1, z0f2, z0l⟩ := z0.cells
  obtain ⟨zpc0, zpc1, zpc2, zpf0, zpf1, zpf2, zpl⟩ := zp.cells
  go_wp2_with fail
  refine bodyPost_ret (v := .tuple #[.int .u64 0, .int .i64 10]) (by simp [results, Tryz.results73, go_sem]) rfl ⟨rfl, BW⟩
theorem build_one {B P W M E H : Nat} {low : Int} (hf : Fm B P W M E H low) (neg : Bool) (r v : Nat) (he : M + r < H) (hv : sgn H neg (M + r) = v) (w : World) :
    Calls Tryz.prog 30 #[.agg #[.int .i64 (B : Int), .int .i64 (P : Int), .int .i64 (W : Int)], .bool neg, .int .u64 1, .int .u64 (r : Int)] w fun e w' => e = .returned (.int .u64 (v : Int)) ∧ Below w.heap.size w w' :=
  build_as hf neg 1 r v (by omega) (by rw [Nat.one_mul, hv]) w
set_option maxHeartbeats 1000000 in
theorem rput_low_sub {B P W M E H : Nat} {low : Int} (hf : Fm B P W M E H low) {A : Option Addr} {n c x : Nat} {neg : Bool} {e : Int} {w : World} (h : BR w A n c x) (hs : n ≤ 100000) (hm : D.may ⟨neg, x, e⟩ = true) (h0 : x ≠ 0) {t : Int} (ht : (blen x : Int) - 1 + e = t) {dn : Bool} {dx : Nat} {de : Int} (hd : D.pl ⟨neg, x, e⟩ = ⟨dn, dx, de⟩) (hl : ¬ low + (P : Int) - 1 < t) (hk : ¬ de < low) {i y v : Nat} (hi : de - low = (i : Int)) (hy : dx * 2 ^ i = y) (hyM : y < M) (hv : sgn H dn y = v) :
    Calls Tryz.prog 73 #[.agg #[.int .i64 (B : Int), .int .i64 (P : Int), .int .i64 (W : Int)], .agg #[.bool neg, .slice A n c, .int .i64 e]] w fun en w' => en = .returned (.tuple #[.int .u64 (v : Int), .int .i64 0]) ∧ Below w.heap.size w w' := by
  obtain ⟨b1, b2, b3, b4, b5, b6, b7, b8, b9, b10, b11, b12, b13, b14, b15⟩ := hf.bd
  obtain ⟨m1, m2, m3⟩ := (D.may_iff _).1 hm
  simp only at m1 m2 m3
  obtain ⟨p1, p2, p3, p4, p5⟩ := pl_bounds hm
  have htd : de + (blen dx : Int) - 1 = t := by
    have h1 := D.pl_pos (d := ⟨neg, x, e⟩) h0
    rw [hd] at h1
    simp only [D.mk.injEq] at h1
    obtain ⟨_, h2, h3⟩ := h1
    have h4 := blen_div_tz h0
    rw [h2, h3, ← ht]
    omega
  have hdx : dx ≠ 0 := by
    have h1 := D.pl_pos (d := ⟨neg, x, e⟩) h0
    rw [hd] at h1
    simp only [D.mk.injEq] at h1
    have h3 := (tz_blen h0).2.2
    rw [← h1.2.1] at h3
    omega
  have hdl := (blen_pos hdx).2
  rw [hd] at p1 p2 p3 p4
  simp only at p1 p2 p3 p4
  clear p5
  have HM := Lib.hid hm
  have HD := Lib.hid hd
  have HL := Lib.hid (fun (V : World) => rlow_as hf low rfl V)
  have HW := Lib.hid (fun (V : World) => power_as W (E + 1) (by omega) hf.pW (W : Int) rfl V)
  have HP := Lib.hid (fun (V : World) => power_as (P - 1) M (by omega) hf.pP ((P : Int) - 1) (by omega) V)
  have q1 : IntKind.i64.wrap (low + (P : Int)) = low + (P : Int) := IntWalk.i64_in _ (by omega)
  have q2 : IntKind.i64.wrap (low + (P : Int) - 1) = low + (P : Int) - 1 := IntWalk.i64_in _ (by omega)
  have HYY := Lib.hid hy
  have HPB := Lib.hid (fun (V : World) => power_b (P - 1) M (by omega) hf.pP ((P : Int) - 1) (by omega) V)
  have q3 : IntKind.i64.wrap ((P : Int) - 1) = (P : Int) - 1 := IntWalk.i64_in _ (by omega)
  have d1 : decide (low + (P : Int) - 1 < t) = false := decide_eq_false hl
  have d2 : decide (E ≤ 1) = false := decide_eq_false (by omega)
  have d2' : decide ((E : Int) ≤ 1) = false := decide_eq_false (by omega)
  have d3 : decide (de < low) = false := decide_eq_false hk
  have hy64 : y < 18446744073709551616 := by omega
  have hMH : 2 * M ≤ H := by
    rw [← hf.hlf.1, Nat.mul_comm 2]; exact Nat.mul_le_mul_left _ (by omega)
  have d4 : decide (y < M) = true := decide_eq_true hyM
  have HG := Lib.hid (fun (V : World) => build_low hf dn y v (by omega) hv V)
  clear hm hf b1 hd ht h0 hdx hl hk hy hyM hv hMH
  go_enter Tryz.func73, Tryz.ntmps73
  go_wp2_with fail
  obtain ⟨V, hV, z0, z1, BW, sW⟩ := fframe2 w 29 71 (B : Int) (P : Int) (W : Int) neg A n c e
  rw [hV]
  clear hV sW
  replace h := h.on BW
  refine (rmay_any true h (by omega) HM.out).mono ?_
  rintro en w1 ⟨rfl, b⟩
  replace z0 := z0.on b
  replace z1 := z1.on b
  replace h := h.on b
  replace BW := Below.step BW b
  clear b
  obtain ⟨z0c0, z0c1, z0c2, z0f0, z0f1, z0f2, z0l⟩ := z0.cells
  obtain ⟨z1c0, z1c1, z1c2, z1f0, z1f1, z1f2, z1l⟩ := z1.cells
  go_wp2_with fail
  refine (rplain_any h (by omega) (by omega) (by omega) HD.out).mono ?_
  rintro en w2 ⟨V_rd, v_rd, c_rd, rfl, rd, b⟩
  clear z0c0 z0c1 z0c2 z0f0 z0f1 z0f2 z0l z1c0 z1c1 z1c2 z1f0 z1f1 z1f2 z1l
  replace z0 := z0.on b
  replace z1 := z1.on b
  replace h := h.on b
  replace BW := Below.step BW b
  clear b
  have hv := rd.size
  have d0 : ((v_rd : Int) == 0) = false := by simp; omega
  have qt : de + (v_rd : Int) - 1 = t := by rw [hv]; exact htd
  have hvl : v_rd ≤ 4096 := by omega
  clear hv htd
  obtain ⟨z0c0, z0c1, z0c2, z0f0, z0f1, z0f2, z0l⟩ := z0.cells
  obtain ⟨z1c0, z1c1, z1c2, z1f0, z1f1, z1f2, z1l⟩ := z1.cells
  go_wp2_with fail
  clear z0c0 z0c1 z0c2 z0f0 z0f1 z0f2 z0l z1c0 z1c1 z1c2 z1f0 z1f1 z1f2 z1l
  obtain ⟨w3, e_w3⟩ : ∃ w', w2.alloc (dob dn V_rd v_rd c_rd de 71) = w' := ⟨_, rfl⟩
  have b : Below w2.heap.size w2 w3 := e_w3 ▸ below_lit _ _
  have hs_w3 : w3.heap.size = w2.heap.size + 1 := e_w3 ▸ size_lit w2 _ rfl
  have zp : DB w3 w2.heap.size 71 dn V_rd v_rd c_rd de := e_w3 ▸ DB.made w2 rfl 71 dn V_rd v_rd c_rd de
  rw [e_w3]
  clear e_w3
  replace z0 := z0.on b
  replace z1 := z1.on b
  replace h := h.on b
  replace rd := rd.on b
  replace BW := Below.step BW b
  clear b
  replace z0 := z0.on ((Below.refl _ _).drew : Below w3.heap.size w3 w3.drew)
  replace z1 := z1.on ((Below.refl _ _).drew : Below w3.heap.size w3 w3.drew)
  replace h := h.on ((Below.refl _ _).drew : Below w3.heap.size w3 w3.drew)
  replace rd := rd.on ((Below.refl _ _).drew : Below w3.heap.size w3 w3.drew)
  replace zp := zp.on ((Below.refl _ _).drew : Below w3.heap.size w3 w3.drew)
  replace BW := Lib.hid (Below.step BW ((Below.refl _ _).drew : Below w3.heap.size w3 w3.drew))
  go_region_held3 (fun w' => w'.cell? ⟨w.heap.size, 0, none⟩ = some (.int .i64 (B : Int)) ∧ w'.cell? ⟨w.heap.size, 1, none⟩ = some (.int .i64 (P : Int)) ∧ w'.cell? ⟨w.heap.size, 2, none⟩ = some (.int .i64 (W : Int)))
    ((first | exact ⟨z0.cells.1, z0.cells.2.1, z0.cells.2.2.1⟩))
    (first
      | (go_at_call 58
         (with_reducible refine (HL.out _).mono ?_)
         rintro en w4 ⟨rfl, b⟩
         replace z0 := z0.on b
         replace z1 := z1.on b
         replace h := h.on b
         replace rd := rd.on b
         replace zp := zp.on b
         replace BW := Lib.hid (Below.step BW.out b)
         clear b))
  replace BW := BW.out
  go_wp2_with fail
  obtain ⟨z0c0, z0c1, z0c2, z0f0, z0f1, z0f2, z0l⟩ := z0.cells
  go_wp2_with fail
  refine (HW.out _).mono ?_
  rintro en w' ⟨rfl, rfl⟩
  go_wp2_with fail
  refine (HL.out _).mono ?_
  rintro en w5 ⟨rfl, b⟩
  clear z0c0 z0c1 z0c2 z0f0 z0f1 z0f2 z0l
  replace z0 := z0.on b
  replace z1 := z1.on b
  replace h := h.on b
  replace rd := rd.on b
  replace zp := zp.on b
  replace BW := Below.step BW b
  clear b
  obtain ⟨z0c0, z0c1, z0c2, z0f0, z0f1, z0f2, z0l⟩ := z0.cells
  obtain ⟨zpc0, zpc1, zpc2, zpf0, zpf1, zpf2, zpl⟩ := zp.cells
  go_wp2_with fail
  refine (rleft_as rd (by omega) i (by omega) HYY.out).mono ?_
  rintro en w6 ⟨V_rl, v_rl, c_rl, rfl, rl, b⟩
  clear z0c0 z0c1 z0c2 z0f0 z0f1 z0f2 z0l zpc0 zpc1 zpc2 zpf0 zpf1 zpf2 zpl
  replace z0 := z0.on b
  replace z1 := z1.on b
  replace h := h.on b
  replace rd := rd.on b
  replace zp := zp.on b
  replace BW := Below.step BW b
  clear b
  obtain ⟨z0c0, z0c1, z0c2, z0f0, z0f1, z0f2, z0l⟩ := z0.cells
  obtain ⟨zpc0, zpc1, zpc2, zpf0, zpf1, zpf2, zpl⟩ := zp.cells
  go_wp2_with fail
  refine (rfull_any rl hy64).mono ?_
  rintro en w' ⟨rfl, rfl⟩
  go_wp2_with fail
  refine (HP.out _).mono ?_
  rintro en w' ⟨rfl, rfl⟩
  go_wp2_with fail
  refine (HG.out _).mono ?_
  rintro en w7 ⟨rfl, b⟩
  clear z0c0 z0c1 z0c2 z0f0 z0f1 z0f2 z0l zpc0 zpc1 zpc2 zpf0 zpf1 zpf2 zpl
  replace z0 := z0.on b
  replace z1 := z1.on b
  replace h := h.on b
  replace rd := rd.on b
  replace zp := zp.on b
  replace rl := rl.on b
  replace BW := Below.step BW b
  clear b
  go_wp2_with fail
  refine bodyPost_ret (v := .tuple #[.int .u64 (v : Int), .int .i64 0]) (by simp [results, Tryz.results73, go_sem]) rfl ⟨rfl, BW⟩
set_option maxHeartbeats 1000000 in
theorem rput_low_norm {B P W M E H : Nat} {low : Int} (hf : Fm B P W M E H low) {A : Option Addr} {n c x : Nat} {neg : Bool} {e : Int} {w : World} (h : BR w A n c x) (hs : n ≤ 100000) (hm : D.may ⟨neg, x, e⟩ = true) (h0 : x ≠ 0) {t : Int} (ht : (blen x : Int) - 1 + e = t) {dn : Bool} {dx : Nat} {de : Int} (hd : D.pl ⟨neg, x, e⟩ = ⟨dn, dx, de⟩) (hl : ¬ low + (P : Int) - 1 < t) (hk : ¬ de < low) {i y v : Nat} (hi : de - low = (i : Int)) (hy : dx * 2 ^ i = y) (hyM : M ≤ y) (hy2 : y < 2 * M) (hv : sgn H dn y = v) :
    Calls Tryz.prog 73 #[.agg #[.int .i64 (B : Int), .int .i64 (P : Int), .int .i64 (W : Int)], .agg #[.bool neg, .slice A n c, .int .i64 e]] w fun en w' => en = .returned (.tuple #[.int .u64 (v : Int), .int .i64 0]) ∧ Below w.heap.size w w' := by
  obtain ⟨b1, b2, b3, b4, b5, b6, b7, b8, b9, b10, b11, b12, b13, b14, b15⟩ := hf.bd
  obtain ⟨m1, m2, m3⟩ := (D.may_iff _).1 hm
  simp only at m1 m2 m3
  obtain ⟨p1, p2, p3, p4, p5⟩ := pl_bounds hm
  have htd : de + (blen dx : Int) - 1 = t := by
    have h1 := D.pl_pos (d := ⟨neg, x, e⟩) h0
    rw [hd] at h1
    simp only [D.mk.injEq] at h1
    obtain ⟨_, h2, h3⟩ := h1
    have h4 := blen_div_tz h0
    rw [h2, h3, ← ht]
    omega
  have hdx : dx ≠ 0 := by
    have h1 := D.pl_pos (d := ⟨neg, x, e⟩) h0
    rw [hd] at h1
    simp only [D.mk.injEq] at h1
    have h3 := (tz_blen h0).2.2
    rw [← h1.2.1] at h3
    omega
  have hdl := (blen_pos hdx).2
  rw [hd] at p1 p2 p3 p4
  simp only at p1 p2 p3 p4
  clear p5
  have HM := Lib.hid hm
  have HD := Lib.hid hd
  have HL := Lib.hid (fun (V : World) => rlow_as hf low rfl V)
  have HW := Lib.hid (fun (V : World) => power_as W (E + 1) (by omega) hf.pW (W : Int) rfl V)
  have HP := Lib.hid (fun (V : World) => power_as (P - 1) M (by omega) hf.pP ((P : Int) - 1) (by omega) V)
  have q1 : IntKind.i64.wrap (low + (P : Int)) = low + (P : Int) := IntWalk.i64_in _ (by omega)
  have q2 : IntKind.i64.wrap (low + (P : Int) - 1) = low + (P : Int) - 1 := IntWalk.i64_in _ (by omega)
  have HYY := Lib.hid hy
  have HPB := Lib.hid (fun (V : World) => power_b (P - 1) M (by omega) hf.pP ((P : Int) - 1) (by omega) V)
  have q3 : IntKind.i64.wrap ((P : Int) - 1) = (P : Int) - 1 := IntWalk.i64_in _ (by omega)
  have d1 : decide (low + (P : Int) - 1 < t) = false := decide_eq_false hl
  have d2 : decide (E ≤ 1) = false := decide_eq_false (by omega)
  have d2' : decide ((E : Int) ≤ 1) = false := decide_eq_false (by omega)
  have d3 : decide (de < low) = false := decide_eq_false hk
  have hy64 : y < 18446744073709551616 := by omega
  have hMH : 2 * M ≤ H := by
    rw [← hf.hlf.1, Nat.mul_comm 2]; exact Nat.mul_le_mul_left _ (by omega)
  have d4 : decide (y < M) = false := decide_eq_false (by omega)
  obtain ⟨r, hr⟩ : ∃ r, y - M = r := ⟨_, rfl⟩
  have q4 : IntKind.u64.wrap ((y : Int) - (M : Int)) = (r : Int) := by rw [show (y : Int) - (M : Int) = ((r : Nat) : Int) by omega]; exact wrap64_nat r (by omega)
  have q5 : IntKind.u64.wrap 1 = 1 := rfl
  have HG := Lib.hid (fun (V : World) => build_one hf dn r v (by omega) (by rw [← hv]; congr 1; omega) V)
  clear hr
  clear hm hf b1 hd ht h0 hdx hl hk hy hyM hv hMH hy2
  go_enter Tryz.func73, Tryz.ntmps73
  go_wp2_with fail
  obtain ⟨V, hV, z0, z1, BW, sW⟩ := fframe2 w 29 71 (B : Int) (P : Int) (W : Int) neg A n c e
  rw [hV]
  clear hV sW
  replace h := h.on BW
  refine (rmay_any true h (by omega) HM.out).mono ?_
  rintro en w1 ⟨rfl, b⟩
  replace z0 := z0.on b
  replace z1 := z1.on b
  replace h := h.on b
  replace BW := Below.step BW b
  clear b
  obtain ⟨z0c0, z0c1, z0c2, z0f0, z0f1, z0f2, z0l⟩ := z0.cells
  obtain ⟨z1c0, z1c1, z1c2, z1f0, z1f1, z1f2, z1l⟩ := z1.cells
  go_wp2_with fail
  refine (rplain_any h (by omega) (by omega) (by omega) HD.out).mono ?_
  rintro en w2 ⟨V_rd, v_rd, c_rd, rfl, rd, b⟩
  clear z0c0 z0c1 z0c2 z0f0 z0f1 z0f2 z0l z1c0 z1c1 z1c2 z1f0 z1f1 z1f2 z1l
  replace z0 := z0.on b
  replace z1 := z1.on b
  replace h := h.on b
  replace BW := Below.step BW b
  clear b
  have hv := rd.size
  have d0 : ((v_rd : Int) == 0) = false := by simp; omega
  have qt : de + (v_rd : Int) - 1 = t := by rw [hv]; exact htd
  have hvl : v_rd ≤ 4096 := by omega
  clear hv htd
  obtain ⟨z0c0, z0c1, z0c2, z0f0, z0f1, z0f2, z0l⟩ := z0.cells
  obtain ⟨z1c0, z1c1, z1c2, z1f0, z1f1, z1f2, z1l⟩ := z1.cells
  go_wp2_with fail
  clear z0c0 z0c1 z0c2 z0f0 z0f1 z0f2 z0l z1c0 z1c1 z1c2 z1f0 z1f1 z1f2 z1l
  obtain ⟨w3, e_w3⟩ : ∃ w', w2.alloc (dob dn V_rd v_rd c_rd de 71) = w' := ⟨_, rfl⟩
  have b : Below w2.heap.size w2 w3 := e_w3 ▸ below_lit _ _
  have hs_w3 : w3.heap.size = w2.heap.size + 1 := e_w3 ▸ size_lit w2 _ rfl
  have zp : DB w3 w2.heap.size 71 dn V_rd v_rd c_rd de := e_w3 ▸ DB.made w2 rfl 71 dn V_rd v_rd c_rd de
  rw [e_w3]
  clear e_w3
  replace z0 := z0.on b
  replace z1 := z1.on b
  replace h := h.on b
  replace rd := rd.on b
  replace BW := Below.step BW b
  clear b
  replace z0 := z0.on ((Below.refl _ _).drew : Below w3.heap.size w3 w3.drew)
  replace z1 := z1.on ((Below.refl _ _).drew : Below w3.heap.size w3 w3.drew)
  replace h := h.on ((Below.refl _ _).drew : Below w3.heap.size w3 w3.drew)
  replace rd := rd.on ((Below.refl _ _).drew : Below w3.heap.size w3 w3.drew)
  replace zp := zp.on ((Below.refl _ _).drew : Below w3.heap.size w3 w3.drew)
  replace BW := Lib.hid (Below.step BW ((Below.refl _ _).drew : Below w3.heap.size w3 w3.drew))
  go_region_held3 (fun w' => w'.cell? ⟨w.heap.size, 0, none⟩ = some (.int .i64 (B : Int)) ∧ w'.cell? ⟨w.heap.size, 1, none⟩ = some (.int .i64 (P : Int)) ∧ w'.cell? ⟨w.heap.size, 2, none⟩ = some (.int .i64 (W : Int)))
    ((first | exact ⟨z0.cells.1, z0.cells.2.1, z0.cells.2.2.1⟩))
    (first
      | (go_at_call 58
         (with_reducible refine (HL.out _).mono ?_)
         rintro en w4 ⟨rfl, b⟩
         replace z0 := z0.on b
         replace z1 := z1.on b
         replace h := h.on b
         replace rd := rd.on b
         replace zp := zp.on b
         replace BW := Lib.hid (Below.step BW.out b)
         clear b))
  replace BW := BW.out
  go_wp2_with fail
  obtain ⟨z0c0, z0c1, z0c2, z0f0, z0f1, z0f2, z0l⟩ := z0.cells
  go_wp2_with fail
  refine (HW.out _).mono ?_
  rintro en w' ⟨rfl, rfl⟩
  go_wp2_with fail
  refine (HL.out _).mono ?_
  rintro en w5 ⟨rfl, b⟩
  clear z0c0 z0c1 z0c2 z0f0 z0f1 z0f2 z0l
  replace z0 := z0.on b
  replace z1 := z1.on b
  replace h := h.on b
  replace rd := rd.on b
  replace zp := zp.on b
  replace BW := Below.step BW b
  clear b
  obtain ⟨z0c0, z0c1, z0c2, z0f0, z0f1, z0f2, z0l⟩ := z0.cells
  obtain ⟨zpc0, zpc1, zpc2, zpf0, zpf1, zpf2, zpl⟩ := zp.cells
  go_wp2_with fail
  refine (rleft_as rd (by omega) i (by omega) HYY.out).mono ?_
  rintro en w6 ⟨V_rl, v_rl, c_rl, rfl, rl, b⟩
  clear z0c0 z0c1 z0c2 z0f0 z0f1 z0f2 z0l zpc0 zpc1 zpc2 zpf0 zpf1 zpf2 zpl
  replace z0 := z0.on b
  replace z1 := z1.on b
  replace h := h.on b
  replace rd := rd.on b
  replace zp := zp.on b
  replace BW := Below.step BW b
  clear b
  obtain ⟨z0c0, z0c1, z0c2, z0f0, z0f1, z0f2, z0l⟩ := z0.cells
  obtain ⟨zpc0, zpc1, zpc2, zpf0, zpf1, zpf2, zpl⟩ := zp.cells
  go_wp2_with fail
  refine (rfull_any rl hy64).mono ?_
  rintro en w' ⟨rfl, rfl⟩
  go_wp2_with fail
  refine (HP.out _).mono ?_
  rintro en w' ⟨rfl, rfl⟩
  go_wp2_with fail
  clear z0c0 z0c1 z0c2 z0f0 z0f1 z0f2 z0l zpc0 zpc1 zpc2 zpf0 zpf1 zpf2 zpl
  replace z0 := z0.on ((Below.refl _ _).drew : Below w6.heap.size w6 w6.drew)
  replace z1 := z1.on ((Below.refl _ _).drew : Below w6.heap.size w6 w6.drew)
  replace h := h.on ((Below.refl _ _).drew : Below w6.heap.size w6 w6.drew)
  replace rd := rd.on ((Below.refl _ _).drew : Below w6.heap.size w6 w6.drew)
  replace zp := zp.on ((Below.refl _ _).drew : Below w6.heap.size w6 w6.drew)
  replace rl := rl.on ((Below.refl _ _).drew : Below w6.heap.size w6 w6.drew)
  replace BW := Lib.hid (Below.step BW ((Below.refl _ _).drew : Below w6.heap.size w6 w6.drew))
  go_region_held3 (fun w' => w'.cell? ⟨w.heap.size, 0, none⟩ = some (.int .i64 (B : Int)) ∧ w'.cell? ⟨w.heap.size, 1, none⟩ = some (.int .i64 (P : Int)) ∧ w'.cell? ⟨w.heap.size, 2, none⟩ = some (.int .i64 (W : Int)) ∧ w'.cell? ⟨w2.heap.size, 0, none⟩ = some (.bool dn) ∧ w'.cell? ⟨w2.heap.size, 1, none⟩ = some (.slice V_rd v_rd c_rd) ∧ w'.cell? ⟨w2.heap.size, 2, none⟩ = some (.int .i64 de))
    ((first | exact ⟨z0.cells.1, z0.cells.2.1, z0.cells.2.2.1, zp.cells.1, zp.cells.2.1, zp.cells.2.2.1⟩))
    (first
      | (go_at_call 50
         (with_reducible refine (HPB.out _).mono ?_)
         rintro en w7 ⟨rfl, b⟩
         replace z0 := z0.on b
         replace z1 := z1.on b
         replace h := h.on b
         replace rd := rd.on b
         replace zp := zp.on b
         replace rl := rl.on b
         replace BW := Lib.hid (Below.step BW.out b)
         clear b)
      | (go_at_call 30
         (with_reducible refine (HG.out _).mono ?_)
         rintro en w8 ⟨rfl, b⟩
         replace z0 := z0.on b
         replace z1 := z1.on b
         replace h := h.on b
         replace rd := rd.on b
         replace zp := zp.on b
         replace rl := rl.on b
         replace BW := Lib.hid (Below.step BW.out b)
         clear b))
  replace BW := BW.out
  go_wp2_with fail
  refine bodyPost_ret (v := .tuple #[.int .u64 (v : Int), .int .i64 0]) (by simp [results, Tryz.results73, go_sem]) rfl ⟨rfl, BW⟩
set_option maxHeartbeats 1000000 in
theorem rput_over {B P W M E H : Nat} {low : Int} (hf : Fm B P W M E H low) {A : Option Addr} {n c x : Nat} {neg : Bool} {e : Int} {w : World} (h : BR w A n c x) (hs : n ≤ 100000) (hm : D.may ⟨neg, x, e⟩ = true) (h0 : x ≠ 0) {t : Int} (ht : (blen x : Int) - 1 + e = t) {dn : Bool} {dx : Nat} {de : Int} (hd : D.pl ⟨neg, x, e⟩ = ⟨dn, dx, de⟩) (hl : low + (P : Int) - 1 < t) {p : Int} {K : Nat} (hK : t - (low + (P : Int) - 1) + 1 = (K : Int)) (hp : low + (K : Int) - 1 = p) (hk : E ≤ K) :
    Calls Tryz.prog 73 #[.agg #[.int .i64 (B : Int), .int .i64 (P : Int), .int .i64 (W : Int)], .agg #[.bool neg, .slice A n c, .int .i64 e]] w fun en w' => en = .returned (.tuple #[.int .u64 0, .int .i64 10]) ∧ Below w.heap.size w w' := by
  obtain ⟨b1, b2, b3, b4, b5, b6, b7, b8, b9, b10, b11, b12, b13, b14, b15⟩ := hf.bd
  obtain ⟨m1, m2, m3⟩ := (D.may_iff _).1 hm
  simp only at m1 m2 m3
  obtain ⟨p1, p2, p3, p4, p5⟩ := pl_bounds hm
  have htd : de + (blen dx : Int) - 1 = t := by
    have h1 := D.pl_pos (d := ⟨neg, x, e⟩) h0
    rw [hd] at h1
    simp only [D.mk.injEq] at h1
    obtain ⟨_, h2, h3⟩ := h1
    have h4 := blen_div_tz h0
    rw [h2, h3, ← ht]
    omega
  have hdx : dx ≠ 0 := by
    have h1 := D.pl_pos (d := ⟨neg, x, e⟩) h0
    rw [hd] at h1
    simp only [D.mk.injEq] at h1
    have h3 := (tz_blen h0).2.2
    rw [← h1.2.1] at h3
    omega
  have hdl := (blen_pos hdx).2
  rw [hd] at p1 p2 p3 p4
  simp only at p1 p2 p3 p4
  clear p5
  have HM := Lib.hid hm
  have HD := Lib.hid hd
  have HL := Lib.hid (fun (V : World) => rlow_as hf low rfl V)
  have HW := Lib.hid (fun (V : World) => power_as W (E + 1) (by omega) hf.pW (W : Int) rfl V)
  have HP := Lib.hid (fun (V : World) => power_as (P - 1) M (by omega) hf.pP ((P : Int) - 1) (by omega) V)
  have q1 : IntKind.i64.wrap (low + (P : Int)) = low + (P : Int) := IntWalk.i64_in _ (by omega)
  have q2 : IntKind.i64.wrap (low + (P : Int) - 1) = low + (P : Int) - 1 := IntWalk.i64_in _ (by omega)
  have d1 : decide (low + (P : Int) - 1 < t) = true := decide_eq_true hl
  have hK2 : K ≤ 20000 := by omega
  have hK3 : 1 ≤ K := by omega
  have k1 : IntKind.i64.wrap (t - (low + (P : Int) - 1)) = t - (low + (P : Int) - 1) := IntWalk.i64_in _ (by omega)
  have k2 : IntKind.i64.wrap (t - (low + (P : Int) - 1) + 1) = (K : Int) := by rw [IntWalk.i64_in _ (by omega)]; exact hK
  have d2 : decide (E ≤ K) = true := decide_eq_true hk
  have d2' : decide ((E : Int) ≤ (K : Int)) = true := decide_eq_true (by omega)
  clear hp hk
  clear hm hf b1 hd ht h0 hdx hl hK
  go_enter Tryz.func73, Tryz.ntmps73
  go_wp2_with fail
  obtain ⟨V, hV, z0, z1, BW, sW⟩ := fframe2 w 29 71 (B : Int) (P : Int) (W : Int) neg A n c e
  rw [hV]
  clear hV sW
  replace h := h.on BW
  refine (rmay_any true h (by omega) HM.out).mono ?_
  rintro en w1 ⟨rfl, b⟩
  replace z0 := z0.on b
  replace z1 := z1.on b
  replace h := h.on b
  replace BW := Below.step BW b
  clear b
  obtain ⟨z0c0, z0c1, z0c2, z0f0, z0f1, z0f2, z0l⟩ := z0.cells
  obtain ⟨z1c0, z1c1, z1c2, z1f0, z1f1, z1f2, z1l⟩ := z1.cells
  go_wp2_with fail
  refine (rplain_any h (by omega) (by omega) (by omega) HD.out).mono ?_
  rintro en w2 ⟨V_rd, v_rd, c_rd, rfl, rd, b⟩
  clear z0c0 z0c1 z0c2 z0f0 z0f1 z0f2 z0l z1c0 z1c1 z1c2 z1f0 z1f1 z1f2 z1l
  replace z0 := z0.on b
  replace z1 := z1.on b
  replace h := h.on b
  replace BW := Below.step BW b
  clear b
  have hv := rd.size
  have d0 : ((v_rd : Int) == 0) = false := by simp; omega
  have qt : de + (v_rd : Int) - 1 = t := by rw [hv]; exact htd
  have hvl : v_rd ≤ 4096 := by omega
  clear hv htd
  obtain ⟨z0c0, z0c1, z0c2, z0f0, z0f1, z0f2, z0l⟩ := z0.cells
  obtain ⟨z1c0, z1c1, z1c2, z1f0, z1f1, z1f2, z1l⟩ := z1.cells
  go_wp2_with fail
  clear z0c0 z0c1 z0c2 z0f0 z0f1 z0f2 z0l z1c0 z1c1 z1c2 z1f0 z1f1 z1f2 z1l
  obtain ⟨w3, e_w3⟩ : ∃ w', w2.alloc (dob dn V_rd v_rd c_rd de 71) = w' := ⟨_, rfl⟩
  have b : Below w2.heap.size w2 w3 := e_w3 ▸ below_lit _ _
  have hs_w3 : w3.heap.size = w2.heap.size + 1 := e_w3 ▸ size_lit w2 _ rfl
  have zp : DB w3 w2.heap.size 71 dn V_rd v_rd c_rd de := e_w3 ▸ DB.made w2 rfl 71 dn V_rd v_rd c_rd de
  rw [e_w3]
  clear e_w3
  replace z0 := z0.on b
  replace z1 := z1.on b
  replace h := h.on b
  replace rd := rd.on b
  replace BW := Below.step BW b
  clear b
  replace z0 := z0.on ((Below.refl _ _).drew : Below w3.heap.size w3 w3.drew)
  replace z1 := z1.on ((Below.refl _ _).drew : Below w3.heap.size w3 w3.drew)
  replace h := h.on ((Below.refl _ _).drew : Below w3.heap.size w3 w3.drew)
  replace rd := rd.on ((Below.refl _ _).drew : Below w3.heap.size w3 w3.drew)
  replace zp := zp.on ((Below.refl _ _).drew : Below w3.heap.size w3 w3.drew)
  replace BW := Lib.hid (Below.step BW ((Below.refl _ _).drew : Below w3.heap.size w3 w3.drew))
  go_region_held3 (fun w' => w'.cell? ⟨w.heap.size, 0, none⟩ = some (.int .i64 (B : Int)) ∧ w'.cell? ⟨w.heap.size, 1, none⟩ = some (.int .i64 (P : Int)) ∧ w'.cell? ⟨w.heap.size, 2, none⟩ = some (.int .i64 (W : Int)))
    ((first | exact ⟨z0.cells.1, z0.cells.2.1, z0.cells.2.2.1⟩))
    (first
      | (go_at_call 58
         (with_reducible refine (HL.out _).mono ?_)
         rintro en w4 ⟨rfl, b⟩
         replace z0 := z0.on b
         replace z1 := z1.on b
         replace h := h.on b
         replace rd := rd.on b
         replace zp := zp.on b
         replace BW := Lib.hid (Below.step BW.out b)
         clear b))
  replace BW := BW.out
  go_wp2_with fail
  replace z0 := z0.on ((Below.refl _ _).drew : Below w4.heap.size w4 w4.drew)
  replace z1 := z1.on ((Below.refl _ _).drew : Below w4.heap.size w4 w4.drew)
  replace h := h.on ((Below.refl _ _).drew : Below w4.heap.size w4 w4.drew)
  replace rd := rd.on ((Below.refl _ _).drew : Below w4.heap.size w4 w4.drew)
  replace zp := zp.on ((Below.refl _ _).drew : Below w4.heap.size w4 w4.drew)
  replace BW := Lib.hid (Below.step BW ((Below.refl _ _).drew : Below w4.heap.size w4 w4.drew))
  go_region_held3 (fun w' => w'.cell? ⟨w.heap.size, 0, none⟩ = some (.int .i64 (B : Int)) ∧ w'.cell? ⟨w.heap.size, 1, none⟩ = some (.int .i64 (P : Int)) ∧ w'.cell? ⟨w.heap.size, 2, none⟩ = some (.int .i64 (W : Int)))
    ((first | exact ⟨z0.cells.1, z0.cells.2.1, z0.cells.2.2.1⟩))
    (first
      | (go_at_call 58
         (with_reducible refine (HL.out _).mono ?_)
         rintro en w5 ⟨rfl, b⟩
         replace z0 := z0.on b
         replace z1 := z1.on b
         replace h := h.on b
         replace rd := rd.on b
         replace zp := zp.on b
         replace BW := Lib.hid (Below.step BW.out b)
         clear b))
  replace BW := BW.out
  obtain ⟨z0c0, z0c1, z0c2, z0f0, z0f1, z0f2, z0l⟩ := z0.cells
  go_wp2_with fail
  refine (HW.out _).mono ?_
  rintro en w' ⟨rfl, rfl⟩
  go_wp2_with fail
  refine bodyPost_ret (v := .tuple #[.int .u64 0, .int .i64 10]) (by simp [results, Tryz.results73, go_sem]) rfl ⟨rfl, BW⟩
set_option maxHeartbeats 1000000 in
theorem rput_high_none {B P W M E H : Nat} {low : Int} (hf : Fm B P W M E H low) {A : Option Addr} {n c x : Nat} {neg : Bool} {e : Int} {w : World} (h : BR w A n c x) (hs : n ≤ 100000) (hm : D.may ⟨neg, x, e⟩ = true) (h0 : x ≠ 0) {t : Int} (ht : (blen x : Int) - 1 + e = t) {dn : Bool} {dx : Nat} {de : Int} (hd : D.pl ⟨neg, x, e⟩ = ⟨dn, dx, de⟩) (hl : low + (P : Int) - 1 < t) {p : Int} {K : Nat} (hK : t - (low + (P : Int) - 1) + 1 = (K : Int)) (hp : low + (K : Int) - 1 = p) (hk : ¬ E ≤ K) (hk2 : de < p) :
    Calls Tryz.prog 73 #[.agg #[.int .i64 (B : Int), .int .i64 (P : Int), .int .i64 (W : Int)], .agg #[.bool neg, .slice A n c, .int .i64 e]] w fun en w' => en = .returned (.tuple #[.int .u64 0, .int .i64 10]) ∧ Below w.heap.size w w' := by
  obtain ⟨b1, b2, b3, b4, b5, b6, b7, b8, b9, b10, b11, b12, b13, b14, b15⟩ := hf.bd
  obtain ⟨m1, m2, m3⟩ := (D.may_iff _).1 hm
  simp only at m1 m2 m3
  obtain ⟨p1, p2, p3, p4, p5⟩ := pl_bounds hm
  have htd : de + (blen dx : Int) - 1 = t := by
    have h1 := D.pl_pos (d := ⟨neg, x, e⟩) h0
    rw [hd] at h1
    simp only [D.mk.injEq] at h1
    obtain ⟨_, h2, h3⟩ := h1
    have h4 := blen_div_tz h0
    rw [h2, h3, ← ht]
    omega
  have hdx : dx ≠ 0 := by
    have h1 := D.pl_pos (d := ⟨neg, x, e⟩) h0
    rw [hd] at h1
    simp only [D.mk.injEq] at h1
    have h3 := (tz_blen h0).2.2
    rw [← h1.2.1] at h3
    omega
  have hdl := (blen_pos hdx).2
  rw [hd] at p1 p2 p3 p4
  simp only at p1 p2 p3 p4
  clear p5
  have HM := Lib.hid hm
  have HD := Lib.hid hd
  have HL := Lib.hid (fun (V : World) => rlow_as hf low rfl V)
  have HW := Lib.hid (fun (V : World) => power_as W (E + 1) (by omega) hf.pW (W : Int) rfl V)
  have HP := Lib.hid (fun (V : World) => power_as (P - 1) M (by omega) hf.pP ((P : Int) - 1) (by omega) V)
  have q1 : IntKind.i64.wrap (low + (P : Int)) = low + (P : Int) := IntWalk.i64_in _ (by omega)
  have q2 : IntKind.i64.wrap (low + (P : Int) - 1) = low + (P : Int) - 1 := IntWalk.i64_in _ (by omega)
  have d1 : decide (low + (P : Int) - 1 < t) = true := decide_eq_true hl
  have hK2 : K ≤ 20000 := by omega
  have hK3 : 1 ≤ K := by omega
  have k1 : IntKind.i64.wrap (t - (low + (P : Int) - 1)) = t - (low + (P : Int) - 1) := IntWalk.i64_in _ (by omega)
  have k2 : IntKind.i64.wrap (t - (low + (P : Int) - 1) + 1) = (K : Int) := by rw [IntWalk.i64_in _ (by omega)]; exact hK
  have d2 : decide (E ≤ K) = false := decide_eq_false hk
  have d2' : decide ((E : Int) ≤ (K : Int)) = false := decide_eq_false (by omega)
  have d3 : decide (de < p) = true := decide_eq_true hk2
  clear hk hk2
  clear hm hf b1 hd ht h0 hdx hl hK
  go_enter Tryz.func73, Tryz.ntmps73
  go_wp2_with fail
  obtain ⟨V, hV, z0, z1, BW, sW⟩ := fframe2 w 29 71 (B : Int) (P : Int) (W : Int) neg A n c e
  rw [hV]
  clear hV sW
  replace h := h.on BW
  refine (rmay_any true h (by omega) HM.out).mono ?_
  rintro en w1 ⟨rfl, b⟩
  replace z0 := z0.on b
  replace z1 := z1.on b
  replace h := h.on b
  replace BW := Below.step BW b
  clear b
  obtain ⟨z0c0, z0c1, z0c2, z0f0, z0f1, z0f2, z0l⟩ := z0.cells
  obtain ⟨z1c0, z1c1, z1c2, z1f0, z1f1, z1f2, z1l⟩ := z1.cells
  go_wp2_with fail
  refine (rplain_any h (by omega) (by omega) (by omega) HD.out).mono ?_
  rintro en w2 ⟨V_rd, v_rd, c_rd, rfl, rd, b⟩
  clear z0c0 z0c1 z0c2 z0f0 z0f1 z0f2 z0l z1c0 z1c1 z1c2 z1f0 z1f1 z1f2 z1l
  replace z0 := z0.on b
  replace z1 := z1.on b
  replace h := h.on b
  replace BW := Below.step BW b
  clear b
  have hv := rd.size
  have d0 : ((v_rd : Int) == 0) = false := by simp; omega
  have qt : de + (v_rd : Int) - 1 = t := by rw [hv]; exact htd
  have hvl : v_rd ≤ 4096 := by omega
  clear hv htd
  obtain ⟨z0c0, z0c1, z0c2, z0f0, z0f1, z0f2, z0l⟩ := z0.cells
  obtain ⟨z1c0, z1c1, z1c2, z1f0, z1f1, z1f2, z1l⟩ := z1.cells
  go_wp2_with fail
  clear z0c0 z0c1 z0c2 z0f0 z0f1 z0f2 z0l z1c0 z1c1 z1c2 z1f0 z1f1 z1f2 z1l
  obtain ⟨w3, e_w3⟩ : ∃ w', w2.alloc (dob dn V_rd v_rd c_rd de 71) = w' := ⟨_, rfl⟩
  have b : Below w2.heap.size w2 w3 := e_w3 ▸ below_lit _ _
  have hs_w3 : w3.heap.size = w2.heap.size + 1 := e_w3 ▸ size_lit w2 _ rfl
  have zp : DB w3 w2.heap.size 71 dn V_rd v_rd c_rd de := e_w3 ▸ DB.made w2 rfl 71 dn V_rd v_rd c_rd de
  rw [e_w3]
  clear e_w3
  replace z0 := z0.on b
  replace z1 := z1.on b
  replace h := h.on b
  replace rd := rd.on b
  replace BW := Below.step BW b
  clear b
  replace z0 := z0.on ((Below.refl _ _).drew : Below w3.heap.size w3 w3.drew)
  replace z1 := z1.on ((Below.refl _ _).drew : Below w3.heap.size w3 w3.drew)
  replace h := h.on ((Below.refl _ _).drew : Below w3.heap.size w3 w3.drew)
  replace rd := rd.on ((Below.refl _ _).drew : Below w3.heap.size w3 w3.drew)
  replace zp := zp.on ((Below.refl _ _).drew : Below w3.heap.size w3 w3.drew)
  replace BW := Lib.hid (Below.step BW ((Below.refl _ _).drew : Below w3.heap.size w3 w3.drew))
  go_region_held3 (fun w' => w'.cell? ⟨w.heap.size, 0, none⟩ = some (.int .i64 (B : Int)) ∧ w'.cell? ⟨w.heap.size, 1, none⟩ = some (.int .i64 (P : Int)) ∧ w'.cell? ⟨w.heap.size, 2, none⟩ = some (.int .i64 (W : Int)))
    ((first | exact ⟨z0.cells.1, z0.cells.2.1, z0.cells.2.2.1⟩))
    (first
      | (go_at_call 58
         (with_reducible refine (HL.out _).mono ?_)
         rintro en w4 ⟨rfl, b⟩
         replace z0 := z0.on b
         replace z1 := z1.on b
         replace h := h.on b
         replace rd := rd.on b
         replace zp := zp.on b
         replace BW := Lib.hid (Below.step BW.out b)
         clear b))
  replace BW := BW.out
  go_wp2_with fail
  replace z0 := z0.on ((Below.refl _ _).drew : Below w4.heap.size w4 w4.drew)
  replace z1 := z1.on ((Below.refl _ _).drew : Below w4.heap.size w4 w4.drew)
  replace h := h.on ((Below.refl _ _).drew : Below w4.heap.size w4 w4.drew)
  replace rd := rd.on ((Below.refl _ _).drew : Below w4.heap.size w4 w4.drew)
  replace zp := zp.on ((Below.refl _ _).drew : Below w4.heap.size w4 w4.drew)
  replace BW := Lib.hid (Below.step BW ((Below.refl _ _).drew : Below w4.heap.size w4 w4.drew))
  go_region_held3 (fun w' => w'.cell? ⟨w.heap.size, 0, none⟩ = some (.int .i64 (B : Int)) ∧ w'.cell? ⟨w.heap.size, 1, none⟩ = some (.int .i64 (P : Int)) ∧ w'.cell? ⟨w.heap.size, 2, none⟩ = some (.int .i64 (W : Int)))
    ((first | exact ⟨z0.cells.1, z0.cells.2.1, z0.cells.2.2.1⟩))
    (first
      | (go_at_call 58
         (with_reducible refine (HL.out _).mono ?_)
         rintro en w5 ⟨rfl, b⟩
         replace z0 := z0.on b
         replace z1 := z1.on b
         replace h := h.on b
         replace rd := rd.on b
         replace zp := zp.on b
         replace BW := Lib.hid (Below.step BW.out b)
         clear b))
  replace BW := BW.out
  obtain ⟨z0c0, z0c1, z0c2, z0f0, z0f1, z0f2, z0l⟩ := z0.cells
  go_wp2_with fail
  refine (HW.out _).mono ?_
  rintro en w' ⟨rfl, rfl⟩
  go_wp2_with fail
  refine (HL.out _).mono ?_
  rintro en w6 ⟨rfl, b⟩
  clear z0c0 z0c1 z0c2 z0f0 z0f1 z0f2 z0l
  replace z0 := z0.on b
  replace z1 := z1.on b
  replace h := h.on b
  replace rd := rd.on b
  replace zp := zp.on b
  replace BW := Below.step BW b
  clear b
  obtain ⟨z0c0, z0c1, z0c2, z0f0, z0f1, z0f2, z0l⟩ := z0.cells
  obtain ⟨zpc0, zpc1, zpc2, zpf0, zpf1, zpf2, zpl⟩ := zp.cells
  go_wp2_with fail
  refine bodyPost_ret (v := .tuple #[.int .u64 0, .int .i64 10]) (by simp [results, Tryz.results73, go_sem]) rfl ⟨rfl, BW⟩
set_option maxHeartbeats 1000000 in
theorem rput_high {B P W M E H : Nat} {low : Int} (hf : Fm B P W M E H low) {A : Option Addr} {n c x : Nat} {neg : Bool} {e : Int} {w : World} (h : BR w A n c x) (hs : n ≤ 100000) (hm : D.may ⟨neg, x, e⟩ = true) (h0 : x ≠ 0) {t : Int} (ht : (blen x : Int) - 1 + e = t) {dn : Bool} {dx : Nat} {de : Int} (hd : D.pl ⟨neg, x, e⟩ = ⟨dn, dx, de⟩) (hl : low + (P : Int) - 1 < t) {p : Int} {K : Nat} (hK : t - (low + (P : Int) - 1) + 1 = (K : Int)) (hp : low + (K : Int) - 1 = p) (hk : ¬ E ≤ K) (hk2 : ¬ de < p) {i y v : Nat} (hi : de - p = (i : Int)) (hy : dx * 2 ^ i = y) (hyM : M ≤ y) (hy2 : y < 2 * M) (hv : sgn H dn ((K - 1) * M + y) = v) :
    Calls Tryz.prog 73 #[.agg #[.int .i64 (B : Int), .int .i64 (P : Int), .int .i64 (W : Int)], .agg #[.bool neg, .slice A n c, .int .i64 e]] w fun en w' => en = .returned (.tuple #[.int .u64 (v : Int), .int .i64 0]) ∧ Below w.heap.size w w' := by
  obtain ⟨b1, b2, b3, b4, b5, b6, b7, b8, b9, b10, b11, b12, b13, b14, b15⟩ := hf.bd
  obtain ⟨m1, m2, m3⟩ := (D.may_iff _).1 hm
  simp only at m1 m2 m3
  obtain ⟨p1, p2, p3, p4, p5⟩ := pl_bounds hm
  have htd : de + (blen dx : Int) - 1 = t := by
    have h1 := D.pl_pos (d := ⟨neg, x, e⟩) h0
    rw [hd] at h1
    simp only [D.mk.injEq] at h1
    obtain ⟨_, h2, h3⟩ := h1
    have h4 := blen_div_tz h0
    rw [h2, h3, ← ht]
    omega
  have hdx : dx ≠ 0 := by
    have h1 := D.pl_pos (d := ⟨neg, x, e⟩) h0
    rw [hd] at h1
    simp only [D.mk.injEq] at h1
    have h3 := (tz_blen h0).2.2
    rw [← h1.2.1] at h3
    omega
  have hdl := (blen_pos hdx).2
  rw [hd] at p1 p2 p3 p4
  simp only at p1 p2 p3 p4
  clear p5
  have HM := Lib.hid hm
  have HD := Lib.hid hd
  have HL := Lib.hid (fun (V : World) => rlow_as hf low rfl V)
  have HW := Lib.hid (fun (V : World) => power_as W (E + 1) (by omega) hf.pW (W : Int) rfl V)
  have HP := Lib.hid (fun (V : World) => power_as (P - 1) M (by omega) hf.pP ((P : Int) - 1) (by omega) V)
  have q1 : IntKind.i64.wrap (low + (P : Int)) = low + (P : Int) := IntWalk.i64_in _ (by omega)
  have q2 : IntKind.i64.wrap (low + (P : Int) - 1) = low + (P : Int) - 1 := IntWalk.i64_in _ (by omega)
  have d1 : decide (low + (P : Int) - 1 < t) = true := decide_eq_true hl
  have hK2 : K ≤ 20000 := by omega
  have hK3 : 1 ≤ K := by omega
  have k1 : IntKind.i64.wrap (t - (low + (P : Int) - 1)) = t - (low + (P : Int) - 1) := IntWalk.i64_in _ (by omega)
  have k2 : IntKind.i64.wrap (t - (low + (P : Int) - 1) + 1) = (K : Int) := by rw [IntWalk.i64_in _ (by omega)]; exact hK
  have d2 : decide (E ≤ K) = false := decide_eq_false hk
  have d2' : decide ((E : Int) ≤ (K : Int)) = false := decide_eq_false (by omega)
  have HYY := Lib.hid hy
  have HPB := Lib.hid (fun (V : World) => power_b (P - 1) M (by omega) hf.pP ((P : Int) - 1) (by omega) V)
  have q3 : IntKind.i64.wrap ((P : Int) - 1) = (P : Int) - 1 := IntWalk.i64_in _ (by omega)
  have d3 : decide (de < p) = false := decide_eq_false hk2
  have hy64 : y < 18446744073709551616 := by omega
  have d4 : decide (y < M) = false := decide_eq_false (by omega)
  obtain ⟨r, hr⟩ : ∃ r, y - M = r := ⟨_, rfl⟩
  have q4 : IntKind.u64.wrap ((y : Int) - (M : Int)) = (r : Int) := by rw [show (y : Int) - (M : Int) = ((r : Nat) : Int) by omega]; exact wrap64_nat r (by omega)
  have q5 : IntKind.u64.wrap (K : Int) = (K : Int) := wrap64_nat K (by omega)
  have e1 : K * M + M ≤ H := by
    rw [← hf.hlf.1, Nat.mul_comm M]
    have h1 : (K + 1) * M ≤ (E + 1) * M := Nat.mul_le_mul_right _ (by omega)
    rw [Nat.add_mul K 1, Nat.one_mul] at h1
    exact h1
  have e2 : (K - 1) * M + M = K * M := by rw [show K * M = (K - 1 + 1) * M by congr 1; omega, Nat.add_mul, Nat.one_mul]
  have HG := Lib.hid (fun (V : World) => build_as hf dn K r v (by omega) (by rw [← hv]; congr 1; omega) V)
  clear hr hk hk2 hy hyM hy2 hv e1 e2
  clear hm hf b1 hd ht h0 hdx hl hK
  go_enter Tryz.func73, Tryz.ntmps73
  go_wp2_with fail
  obtain ⟨V, hV, z0, z1, BW, sW⟩ := fframe2 w 29 71 (B : Int) (P : Int) (W : Int) neg A n c e
  rw [hV]
  clear hV sW
  replace h := h.on BW
  refine (rmay_any true h (by omega) HM.out).mono ?_
  rintro en w1 ⟨rfl, b⟩
  replace z0 := z0.on b
  replace z1 := z1.on b
  replace h := h.on b
  replace BW := Below.step BW b
  clear b
  obtain ⟨z0c0, z0c1, z0c2, z0f0, z0f1, z0f2, z0l⟩ := z0.cells
  obtain ⟨z1c0, z1c1, z1c2, z1f0, z1f1, z1f2, z1l⟩ := z1.cells
  go_wp2_with fail
  refine (rplain_any h (by omega) (by omega) (by omega) HD.out).mono ?_
  rintro en w2 ⟨V_rd, v_rd, c_rd, rfl, rd, b⟩
  clear z0c0 z0c1 z0c2 z0f0 z0f1 z0f2 z0l z1c0 z1c1 z1c2 z1f0 z1f1 z1f2 z1l
  replace z0 := z0.on b
  replace z1 := z1.on b
  replace h := h.on b
  replace BW := Below.step BW b
  clear b
  have hv := rd.size
  have d0 : ((v_rd : Int) == 0) = false := by simp; omega
  have qt : de + (v_rd : Int) - 1 = t := by rw [hv]; exact htd
  have hvl : v_rd ≤ 4096 := by omega
  clear hv htd
  obtain ⟨z0c0, z0c1, z0c2, z0f0, z0f1, z0f2, z0l⟩ := z0.cells
  obtain ⟨z1c0, z1c1, z1c2, z1f0, z1f1, z1f2, z1l⟩ := z1.cells
  go_wp2_with fail
  clear z0c0 z0c1 z0c2 z0f0 z0f1 z0f2 z0l z1c0 z1c1 z1c2 z1f0 z1f1 z1f2 z1l
  obtain ⟨w3, e_w3⟩ : ∃ w', w2.alloc (dob dn V_rd v_rd c_rd de 71) = w' := ⟨_, rfl⟩
  have b : Below w2.heap.size w2 w3 := e_w3 ▸ below_lit _ _
  have hs_w3 : w3.heap.size = w2.heap.size + 1 := e_w3 ▸ size_lit w2 _ rfl
  have zp : DB w3 w2.heap.size 71 dn V_rd v_rd c_rd de := e_w3 ▸ DB.made w2 rfl 71 dn V_rd v_rd c_rd de
  rw [e_w3]
  clear e_w3
  replace z0 := z0.on b
  replace z1 := z1.on b
  replace h := h.on b
  replace rd := rd.on b
  replace BW := Below.step BW b
  clear b
  replace z0 := z0.on ((Below.refl _ _).drew : Below w3.heap.size w3 w3.drew)
  replace z1 := z1.on ((Below.refl _ _).drew : Below w3.heap.size w3 w3.drew)
  replace h := h.on ((Below.refl _ _).drew : Below w3.heap.size w3 w3.drew)
  replace rd := rd.on ((Below.refl _ _).drew : Below w3.heap.size w3 w3.drew)
  replace zp := zp.on ((Below.refl _ _).drew : Below w3.heap.size w3 w3.drew)
  replace BW := Lib.hid (Below.step BW ((Below.refl _ _).drew : Below w3.heap.size w3 w3.drew))
  go_region_held3 (fun w' => w'.cell? ⟨w.heap.size, 0, none⟩ = some (.int .i64 (B : Int)) ∧ w'.cell? ⟨w.heap.size, 1, none⟩ = some (.int .i64 (P : Int)) ∧ w'.cell? ⟨w.heap.size, 2, none⟩ = some (.int .i64 (W : Int)))
    ((first | exact ⟨z0.cells.1, z0.cells.2.1, z0.cells.2.2.1⟩))
    (first
      | (go_at_call 58
         (with_reducible refine (HL.out _).mono ?_)
         rintro en w4 ⟨rfl, b⟩
         replace z0 := z0.on b
         replace z1 := z1.on b
         replace h := h.on b
         replace rd := rd.on b
         replace zp := zp.on b
         replace BW := Lib.hid (Below.step BW.out b)
         clear b))
  replace BW := BW.out
  go_wp2_with fail
  replace z0 := z0.on ((Below.refl _ _).drew : Below w4.heap.size w4 w4.drew)
  replace z1 := z1.on ((Below.refl _ _).drew : Below w4.heap.size w4 w4.drew)
  replace h := h.on ((Below.refl _ _).drew : Below w4.heap.size w4 w4.drew)
  replace rd := rd.on ((Below.refl _ _).drew : Below w4.heap.size w4 w4.drew)
  replace zp := zp.on ((Below.refl _ _).drew : Below w4.heap.size w4 w4.drew)
  replace BW := Lib.hid (Below.step BW ((Below.refl _ _).drew : Below w4.heap.size w4 w4.drew))
  go_region_held3 (fun w' => w'.cell? ⟨w.heap.size, 0, none⟩ = some (.int .i64 (B : Int)) ∧ w'.cell? ⟨w.heap.size, 1, none⟩ = some (.int .i64 (P : Int)) ∧ w'.cell? ⟨w.heap.size, 2, none⟩ = some (.int .i64 (W : Int)))
    ((first | exact ⟨z0.cells.1, z0.cells.2.1, z0.cells.2.2.1⟩))
    (first
      | (go_at_call 58
         (with_reducible refine (HL.out _).mono ?_)
         rintro en w5 ⟨rfl, b⟩
         replace z0 := z0.on b
         replace z1 := z1.on b
         replace h := h.on b
         replace rd := rd.on b
         replace zp := zp.on b
         replace BW := Lib.hid (Below.step BW.out b)
         clear b))
  replace BW := BW.out
  obtain ⟨z0c0, z0c1, z0c2, z0f0, z0f1, z0f2, z0l⟩ := z0.cells
  go_wp2_with fail
  refine (HW.out _).mono ?_
  rintro en w' ⟨rfl, rfl⟩
  go_wp2_with fail
  refine (HL.out _).mono ?_
  rintro en w6 ⟨rfl, b⟩
  clear z0c0 z0c1 z0c2 z0f0 z0f1 z0f2 z0l
  replace z0 := z0.on b
  replace z1 := z1.on b
  replace h := h.on b
  replace rd := rd.on b
  replace zp := zp.on b
  replace BW := Below.step BW b
  clear b
  obtain ⟨z0c0, z0c1, z0c2, z0f0, z0f1, z0f2, z0l⟩ := z0.cells
  obtain ⟨zpc0, zpc1, zpc2, zpf0, zpf1, zpf2, zpl⟩ := zp.cells
  go_wp2_with fail
  refine (rleft_as rd (by omega) i (by omega) HYY.out).mono ?_
  rintro en w7 ⟨V_rl, v_rl, c_rl, rfl, rl, b⟩
  clear z0c0 z0c1 z0c2 z0f0 z0f1 z0f2 z0l zpc0 zpc1 zpc2 zpf0 zpf1 zpf2 zpl
  replace z0 := z0.on b
  replace z1 := z1.on b
  replace h := h.on b
  replace rd := rd.on b
  replace zp := zp.on b
  replace BW := Below.step BW b
  clear b
  obtain ⟨z0c0, z0c1, z0c2, z0f0, z0f1, z0f2, z0l⟩ := z0.cells
  obtain ⟨zpc0, zpc1, zpc2, zpf0, zpf1, zpf2, zpl⟩ := zp.cells
  go_wp2_with fail
  refine (rfull_any rl hy64).mono ?_
  rintro en w' ⟨rfl, rfl⟩
  go_wp2_with fail
  refine (HP.out _).mono ?_
  rintro en w' ⟨rfl, rfl⟩
  go_wp2_with fail
  clear z0c0 z0c1 z0c2 z0f0 z0f1 z0f2 z0l zpc0 zpc1 zpc2 zpf0 zpf1 zpf2 zpl
  replace z0 := z0.on ((Below.refl _ _).drew : Below w7.heap.size w7 w7.drew)
  replace z1 := z1.on ((Below.refl _ _).drew : Below w7.heap.size w7 w7.drew)
  replace h := h.on ((Below.refl _ _).drew : Below w7.heap.size w7 w7.drew)
  replace rd := rd.on ((Below.refl _ _).drew : Below w7.heap.size w7 w7.drew)
  replace zp := zp.on ((Below.refl _ _).drew : Below w7.heap.size w7 w7.drew)
  replace rl := rl.on ((Below.refl _ _).drew : Below w7.heap.size w7 w7.drew)
  replace BW := Lib.hid (Below.step BW ((Below.refl _ _).drew : Below w7.heap.size w7 w7.drew))
  go_region_held3 (fun w' => w'.cell? ⟨w.heap.size, 0, none⟩ = some (.int .i64 (B : Int)) ∧ w'.cell? ⟨w.heap.size, 1, none⟩ = some (.int .i64 (P : Int)) ∧ w'.cell? ⟨w.heap.size, 2, none⟩ = some (.int .i64 (W : Int)) ∧ w'.cell? ⟨w2.heap.size, 0, none⟩ = some (.bool dn) ∧ w'.cell? ⟨w2.heap.size, 1, none⟩ = some (.slice V_rd v_rd c_rd) ∧ w'.cell? ⟨w2.heap.size, 2, none⟩ = some (.int .i64 de))
    ((first | exact ⟨z0.cells.1, z0.cells.2.1, z0.cells.2.2.1, zp.cells.1, zp.cells.2.1, zp.cells.2.2.1⟩))
    (first
      | (go_at_call 50
         (with_reducible refine (HPB.out _).mono ?_)
         rintro en w8 ⟨rfl, b⟩
         replace z0 := z0.on b
         replace z1 := z1.on b
         replace h := h.on b
         replace rd := rd.on b
         replace zp := zp.on b
         replace rl := rl.on b
         replace BW := Lib.hid (Below.step BW.out b)
         clear b)
      | (go_at_call 30
         (with_reducible refine (HG.out _).mono ?_)
         rintro en w9 ⟨rfl, b⟩
         replace z0 := z0.on b
         replace z1 := z1.on b
         replace h := h.on b
         replace rd := rd.on b
         replace zp := zp.on b
         replace rl := rl.on b
         replace BW := Lib.hid (Below.step BW.out b)
         clear b))
  replace BW := BW.out
  go_wp2_with fail
  refine bodyPost_ret (v := .tuple #[.int .u64 (v : Int), .int .i64 0]) (by simp [results, Tryz.results73, go_sem]) rfl ⟨rfl, BW⟩
theorem shifted_lt {B P W M E H : Nat} {low : Int} (hf : Fm B P W M E H low) {dx i : Nat} (h : blen dx + i ≤ P) : dx * 2 ^ i < 2 * M := by
  obtain ⟨_, b2, _⟩ := hf.bd
  rw [← hf.pP, Nat.mul_comm 2, ← Nat.pow_succ, show (P - 1).succ = P by omega]
  have h1 := (blen_le dx (blen dx)).1 (Nat.le_refl _)
  have h2 : dx * 2 ^ i < 2 ^ blen dx * 2 ^ i := Nat.mul_lt_mul_of_pos_right h1 (Nat.two_pow_pos _)
  rw [← Nat.pow_add] at h2
  exact Nat.lt_of_lt_of_le h2 (Nat.pow_le_pow_right (by omega) h)
theorem shifted_ge {B P W M E H : Nat} {low : Int} (hf : Fm B P W M E H low) {dx i : Nat} (h0 : dx ≠ 0) (h : blen dx + i = P) : M ≤ dx * 2 ^ i := by
  obtain ⟨h1, h2⟩ := blen_pos h0
  have h3 : 2 ^ (blen dx - 1) * 2 ^ i ≤ dx * 2 ^ i := Nat.mul_le_mul_right _ h1
  rw [← Nat.pow_add, show blen dx - 1 + i = P - 1 by omega, hf.pP] at h3
  exact h3
theorem rput_as {B P W M E H : Nat} {low : Int} (hf : Fm B P W M E H low) {A : Option Addr} {n c x : Nat} {neg : Bool} {e : Int} {w : World} (h : BR w A n c x) (hs : n ≤ 100000) {v : Nat} {q : Int} (hr : putS P M E H low ⟨neg, x, e⟩ = (v, q)) :
    Calls Tryz.prog 73 #[.agg #[.int .i64 (B : Int), .int .i64 (P : Int), .int .i64 (W : Int)], .agg #[.bool neg, .slice A n c, .int .i64 e]] w fun en w' => en = .returned (.tuple #[.int .u64 (v : Int), .int .i64 q]) ∧ Below w.heap.size w w' := by
  obtain ⟨b1, b2, b3, b4, b5, b6, b7, b8, b9, b10, b11, b12, b13, b14, b15⟩ := hf.bd
  unfold putS at hr
  obtain ⟨m, hm⟩ : ∃ m, D.may ⟨neg, x, e⟩ = m := ⟨_, rfl⟩
  rw [hm] at hr
  cases m
  · rw [if_neg (by decide)] at hr
    simp only [Prod.mk.injEq] at hr
    obtain ⟨rfl, rfl⟩ := hr
    exact rput_range hf h hs hm
  · rw [if_pos rfl] at hr
    by_cases h0 : x = 0
    · rw [if_pos h0] at hr
      simp only [Prod.mk.injEq] at hr
      obtain ⟨rfl, rfl⟩ := hr
      exact rput_zero hf h hs hm h0
    · rw [if_neg h0] at hr
      obtain ⟨t, ht⟩ : ∃ t : Int, (blen x : Int) - 1 + e = t := ⟨_, rfl⟩
      obtain ⟨dn, dx, de, hd⟩ : ∃ dn dx de, D.pl ⟨neg, x, e⟩ = ⟨dn, dx, de⟩ := ⟨_, _, _, rfl⟩
      have hpl := D.pl_pos (d := ⟨neg, x, e⟩) h0
      rw [hd] at hpl
      simp only [D.mk.injEq] at hpl
      obtain ⟨_, g2, g3⟩ := hpl
      have g4 := blen_div_tz h0
      rw [← g2] at g4
      have g5 : dx ≠ 0 := by
        have := (tz_blen h0).2.2
        rw [← g2] at this
        omega
      have g6 : (blen dx : Int) - 1 + de = t := by omega
      clear g2 g3 g4
      unfold plcS at hr
      rw [hd, ht] at hr
      simp only at hr
      by_cases hl : low + (P : Int) - 1 < t
      · obtain ⟨K, hK⟩ := Int.eq_ofNat_of_zero_le (show 0 ≤ t - (low + (P : Int) - 1) + 1 by omega)
        obtain ⟨p, hp⟩ : ∃ p : Int, low + (K : Int) - 1 = p := ⟨_, rfl⟩
        rw [show max (t - ((P : Int) - 1)) low = p by omega] at hr
        by_cases hk : E ≤ K
        · rw [if_pos (.inr (by omega))] at hr
          simp only [Prod.mk.injEq] at hr
          obtain ⟨rfl, rfl⟩ := hr
          exact rput_over hf h hs hm h0 ht hd hl hK hp hk
        · by_cases hk2 : de < p
          · rw [if_pos (.inl hk2)] at hr
            simp only [Prod.mk.injEq] at hr
            obtain ⟨rfl, rfl⟩ := hr
            exact rput_high_none hf h hs hm h0 ht hd hl hK hp hk hk2
          · rw [if_neg (fun h => h.elim hk2 (by omega))] at hr
            simp only [Prod.mk.injEq] at hr
            obtain ⟨hv, rfl⟩ := hr
            obtain ⟨i, hi⟩ := Int.eq_ofNat_of_zero_le (show 0 ≤ de - p by omega)
            rw [hi, Int.toNat_natCast, show (p - low).toNat = K - 1 by omega] at hv
            exact rput_high hf h hs hm h0 ht hd hl hK hp hk hk2 hi rfl (shifted_ge hf g5 (by omega)) (shifted_lt hf (by omega)) hv
      · rw [show max (t - ((P : Int) - 1)) low = low by omega] at hr
        by_cases hk : de < low
        · rw [if_pos (.inl hk)] at hr
          simp only [Prod.mk.injEq] at hr
          obtain ⟨rfl, rfl⟩ := hr
          exact rput_low_none hf h hs hm h0 ht hd hl hk
        · rw [if_neg (fun h => h.elim hk (by omega))] at hr
          simp only [Prod.mk.injEq] at hr
          obtain ⟨hv, rfl⟩ := hr
          obtain ⟨i, hi⟩ := Int.eq_ofNat_of_zero_le (show 0 ≤ de - low by omega)
          rw [hi, Int.toNat_natCast, Int.sub_self, Int.toNat_zero, Nat.zero_mul, Nat.zero_add] at hv
          have hy2 := shifted_lt hf (dx := dx) (i := i) (by omega)
          by_cases hM : dx * 2 ^ i < M
          · exact rput_low_sub hf h hs hm h0 ht hd hl hk hi rfl hM hv
          · exact rput_low_norm hf h hs hm h0 ht hd hl hk hi rfl (by omega) hy2 hv
end Go.Proofs.YtpachoeignpcbaaGreatDoor
