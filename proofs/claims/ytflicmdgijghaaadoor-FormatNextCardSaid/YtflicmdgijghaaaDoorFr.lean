
/-
  The walks of the reference of layer 3: small functions.
-/
import Derived.Test.YtflicmdgijghaaaDoorFc
namespace Go.Proofs.YtflicmdgijghaaaDoor
open Go.RowKit
set_option linter.unusedVariables false

theorem power_as (k m : Nat) (hk : k ≤ 63) (hm : 2 ^ k = m) (n : Int) (hn : n = (k : Int)) (w : World) :
    Calls Tryd.prog 41 #[.int .i64 n] w fun e w' => e = .returned (.int .u64 (m : Int)) ∧ w = w' := by
  have HM := Lib.hid hm
  subst hn
  clear hm
  go_enter Tryd.func41, Tryd.ntmps41
  go_wp2_with fail
  go_loop [3, 4] (fun t iv => ∃ i y : Nat, i ≤ k ∧ y = 2 ^ i ∧ iv = .int .i64 i ∧ t = .int .u64 y) (fun _ iv => k - (intOf iv).toNat)
  case atStart => exact ⟨0, 1, by omega, rfl, rfl, rfl⟩
  case round =>
    obtain ⟨i, y, hi, hy, rfl, rfl⟩ := hrel
    have HY := Lib.hid hy
    by_cases h0 : i = k
    · clear hy
      subst h0
      have d : decide ((i : Int) < (i : Int)) = false := decide_eq_false (by omega)
      go_wp2_with fail
      go_ret
      exact ⟨ret_int (by rw [HY.out, HM.out]), rfl⟩
    · have h1 : y ≤ 4611686018427387904 := by
        have h2 : 2 ^ i ≤ 2 ^ 62 := Nat.pow_le_pow_right (by omega) (by omega)
        omega
      clear hy
      have d : decide ((i : Int) < (k : Int)) = true := decide_eq_true (by omega)
      go_wp2_with fail
      go_round
      case rel => exact ⟨i + 1, y * 2, by omega, by rw [HY.out, Nat.pow_succ], rfl, by go_num⟩
      case measure => simp [intOf]; omega
theorem power_b (k m : Nat) (hk : k ≤ 63) (hm : 2 ^ k = m) (n : Int) (hn : n = (k : Int)) (w : World) :
    Calls Tryd.prog 41 #[.int .i64 n] w fun e w' => e = .returned (.int .u64 (m : Int)) ∧ Below w.heap.size w w' :=
  (power_as k m hk hm n hn w).mono fun e w' ⟨h, hw⟩ => ⟨h, hw ▸ Below.refl _ _⟩
theorem rbias_as {B P W M E H : Nat} {low : Int} (hf : Fm B P W M E H low) (q : Int) (hq : 2 - (P : Int) - low = q) (w : World) :
    Calls Tryd.prog 15 #[.agg #[.int .i64 (B : Int), .int .i64 (P : Int), .int .i64 (W : Int)]] w fun e w' => e = .returned (.int .i64 q) ∧ Below w.heap.size w w' := by
  obtain ⟨b1, b2, b3, b4, b5, b6, b7, b8, b9, b10, b11, b12, b13, b14, b15⟩ := hf.bd
  obtain ⟨k, hk⟩ : ∃ k : Nat, 2 ^ (W - 1) = k + 1 ∧ (k : Int) = q := ⟨(2 - (P : Int) - low).toNat, by
    have := hf.pBias
    have h2 := Nat.two_pow_pos (W - 1)
    omega, by
    have := hf.pBias
    have h2 := Nat.two_pow_pos (W - 1)
    omega⟩
  have HK := Lib.hid hk.1
  obtain rfl := hk.2
  have hk3 : k ≤ 2000 := by
    have h1 : 2 ^ (W - 1) ≤ 2 ^ 10 := Nat.pow_le_pow_right (by omega) (by omega)
    omega
  have HF := Lib.hid (fun (V : World) => power_as (W - 1) (k + 1) (by omega) HK.out ((W : Int) - 1) (by omega) V)
  clear hq hf b1 hk
  go_enter Tryd.func15, Tryd.ntmps15
  go_wp2_with (refine (HF.out _).mono ?_; rintro e w' ⟨rfl, rfl⟩)
  go_ret
  exact ⟨ret_int (by omega), below_lit _ _⟩
theorem rlow_as {B P W M E H : Nat} {low : Int} (hf : Fm B P W M E H low) (q : Int) (hq : low = q) (w : World) :
    Calls Tryd.prog 17 #[.agg #[.int .i64 (B : Int), .int .i64 (P : Int), .int .i64 (W : Int)]] w fun e w' => e = .returned (.int .i64 q) ∧ Below w.heap.size w w' := by
  obtain ⟨b1, b2, b3, b4, b5, b6, b7, b8, b9, b10, b11, b12, b13, b14, b15⟩ := hf.bd
  subst hq
  obtain ⟨i, hi⟩ : ∃ i : Int, 2 - (P : Int) - low = i := ⟨_, rfl⟩
  have HF := Lib.hid (fun (V : World) => rbias_as hf i hi V)
  have q1 : IntKind.i64.wrap (2 - (P : Int)) = 2 - (P : Int) := IntWalk.i64_in _ (by omega)
  have q2 : IntKind.i64.wrap (2 - (P : Int) - i) = low := by rw [IntWalk.i64_in _ (by omega)]; omega
  clear hi hf b1
  go_enter Tryd.func17, Tryd.ntmps17
  go_wp2_with fail
  obtain ⟨V, hV, z0, BW, sW⟩ := fframe1 w 29 (B : Int) (P : Int) (W : Int)
  rw [hV]
  clear hV
  have kb : FB V.drew w.heap.size 29 (B : Int) (P : Int) (W : Int) := z0.on ((Below.refl _ _).drew)
  have HB := Lib.hid (Below.step BW ((Below.refl _ _).drew))
  clear z0 BW
  go_region_held3 (fun w' => w'.cell? ⟨w.heap.size, 0, none⟩ = some (.int .i64 (B : Int)) ∧ w'.cell? ⟨w.heap.size, 1, none⟩ = some (.int .i64 (P : Int)) ∧ w'.cell? ⟨w.heap.size, 2, none⟩ = some (.int .i64 (W : Int)))
    ((exact ⟨kb.cells.1, kb.cells.2.1, kb.cells.2.2.1⟩))
    (first
      | (go_at_call 15
         (with_reducible refine (HF.out _).mono ?_)
         rintro en w3 ⟨rfl, b⟩
         replace kb := kb.on b
         replace HB := Lib.hid (Below.step HB.out b)
         clear b))
  go_wp2_with fail
  go_ret
  exact ⟨rfl, HB.out⟩
/-- sign, exponent field, fraction; are there bits beyond? -/
theorem parts_as {B P W M E H : Nat} {low : Int} (hf : Fm B P W M E H low) (b s x r : Nat) (y : Bool) (hb : b < 18446744073709551616) (hs : b / H % 2 = s) (hx : b / M % (E + 1) = x) (hr : b % M = r) (hy : decide (¬ b < 2 * H) = y) (w : World) :
    Calls Tryd.prog 11 #[.agg #[.int .i64 (B : Int), .int .i64 (P : Int), .int .i64 (W : Int)], .int .u64 (b : Int)] w fun e w' => e = .returned (.tuple #[.int .u64 (s : Int), .int .u64 (x : Int), .int .u64 (r : Int), .bool y]) ∧ Below w.heap.size w w' := by
  obtain ⟨b1, b2, b3, b4, b5, b6, b7, b8, b9, b10, b11, b12, b13, b14, b15⟩ := hf.bd
  have HP := Lib.hid (fun (V : World) => power_as (P - 1) M (by omega) hf.pP ((P : Int) - 1) (by omega) V)
  have HW := Lib.hid (fun (V : World) => power_as W (E + 1) (by omega) hf.pW (W : Int) rfl V)
  obtain ⟨e1, e2⟩ := hf.hlf
  obtain ⟨z, hz⟩ : ∃ z, b / M = z := ⟨_, rfl⟩
  obtain ⟨t, ht⟩ : ∃ t, z / (E + 1) = t := ⟨_, rfl⟩
  have ht2 : b / H = t := by rw [← ht, ← hz, Nat.div_div_eq_div_mul, e1]
  rw [ht2] at hs
  rw [hz] at hx
  have hz2 : z ≤ b := by rw [← hz]; exact Nat.div_le_self _ _
  have ht3 : t ≤ z := by rw [← ht]; exact Nat.div_le_self _ _
  have q6 : decide (1 < (t : Int)) = y := by
    rw [← hy]
    refine decide_eq_decide.2 ?_
    have h1 : 1 < t ↔ 2 * H ≤ b := by rw [Nat.lt_iff_add_one_le, ← ht2, Nat.le_div_iff_mul_le (by omega)]
    omega
  have c1 : (E : Int) + 1 = ((E + 1 : Nat) : Int) := by omega
  have q1 : (b : Int) % (M : Int) = (r : Int) := by rw [← Int.natCast_emod, hr]
  have q2 : IntKind.u64.wrap ((b : Int) / (M : Int)) = (z : Int) := by rw [← Int.natCast_ediv, hz]; exact wrap64_nat z (by omega)
  have q3 : (z : Int) % ((E : Int) + 1) = (x : Int) := by rw [c1, ← Int.natCast_emod, hx]
  have q3' : (z : Int).tmod ((E : Int) + 1) = (x : Int) := by rw [Int.tmod_eq_emod_of_nonneg (by omega)]; exact q3
  have q4 : IntKind.u64.wrap ((z : Int) / ((E : Int) + 1)) = (t : Int) := by rw [c1, ← Int.natCast_ediv, ht]; exact wrap64_nat t (by omega)
  have q4' : IntKind.u64.wrap ((z : Int).tdiv ((E : Int) + 1)) = (t : Int) := by rw [Int.tdiv_eq_ediv_of_nonneg (by omega)]; exact q4
  have q5 : (t : Int) % 2 = (s : Int) := by omega
  clear hf b1 hs hx hr hy e1 e2 hz ht ht2 hz2 ht3 c1
  go_enter Tryd.func11, Tryd.ntmps11
  go_wp2_with fail
  refine (HP.out _).mono ?_
  rintro e w' ⟨rfl, rfl⟩
  go_wp2_with fail
  refine (HP.out _).mono ?_
  rintro e w' ⟨rfl, rfl⟩
  go_wp2_with fail
  refine (HW.out _).mono ?_
  rintro e w' ⟨rfl, rfl⟩
  go_wp2_with fail
  refine (HW.out _).mono ?_
  rintro e w' ⟨rfl, rfl⟩
  go_wp2_with fail
  refine bodyPost_ret (v := .tuple #[.int .u64 (s : Int), .int .u64 (x : Int), .int .u64 (r : Int), .bool y]) (by simp [results, Tryd.results11, go_sem, q5]) rfl ⟨rfl, below_lit _ _⟩
theorem build_pos {B P W M E H : Nat} {low : Int} (hf : Fm B P W M E H low) (x r v : Nat) (he : x * M + r < H) (hv : x * M + r = v) (w : World) :
    Calls Tryd.prog 29 #[.agg #[.int .i64 (B : Int), .int .i64 (P : Int), .int .i64 (W : Int)], .bool false, .int .u64 (x : Int), .int .u64 (r : Int)] w fun e w' => e = .returned (.int .u64 (v : Int)) ∧ Below w.heap.size w w' := by
  obtain ⟨b1, b2, b3, b4, b5, b6, b7, b8, b9, b10, b11, b12, b13, b14, b15⟩ := hf.bd
  have HP := Lib.hid (fun (V : World) => power_as (P - 1) M (by omega) hf.pP ((P : Int) - 1) (by omega) V)
  obtain ⟨s, hs⟩ : ∃ s, x * M = s := ⟨_, rfl⟩
  rw [hs] at hv he
  have q1 : IntKind.u64.wrap ((x : Int) * (M : Int)) = (s : Int) := by rw [← Int.natCast_mul, hs]; exact wrap64_nat s (by omega)
  have q2 : IntKind.u64.wrap ((s : Int) + (r : Int)) = (v : Int) := by rw [← Int.natCast_add, hv]; exact wrap64_nat v (by omega)
  clear hv hf b1 hs
  go_enter Tryd.func29, Tryd.ntmps29
  go_wp2_with fail
  obtain ⟨V, hV, z0, BW, sW⟩ := fframe1 w 29 (B : Int) (P : Int) (W : Int)
  rw [hV]
  clear hV sW
  obtain ⟨z0c0, z0c1, z0c2, z0f0, z0f1, z0f2, z0l⟩ := z0.cells
  refine (HP.out _).mono ?_
  rintro en w' ⟨rfl, rfl⟩
  go_wp2_with fail
  go_ret
  exact ⟨rfl, BW⟩
theorem build_neg {B P W M E H : Nat} {low : Int} (hf : Fm B P W M E H low) (x r v : Nat) (he : x * M + r < H) (hv : H + (x * M + r) = v) (w : World) :
    Calls Tryd.prog 29 #[.agg #[.int .i64 (B : Int), .int .i64 (P : Int), .int .i64 (W : Int)], .bool true, .int .u64 (x : Int), .int .u64 (r : Int)] w fun e w' => e = .returned (.int .u64 (v : Int)) ∧ Below w.heap.size w w' := by
  obtain ⟨b1, b2, b3, b4, b5, b6, b7, b8, b9, b10, b11, b12, b13, b14, b15⟩ := hf.bd
  have HP := Lib.hid (fun (V : World) => power_as (P - 1) M (by omega) hf.pP ((P : Int) - 1) (by omega) V)
  have HB := Lib.hid (fun (V : World) => power_as (B - 1) H (by omega) hf.pB ((B : Int) - 1) (by omega) V)
  obtain ⟨s, hs⟩ : ∃ s, x * M = s := ⟨_, rfl⟩
  obtain ⟨t, ht⟩ : ∃ t, s + r = t := ⟨_, rfl⟩
  rw [hs] at hv he
  rw [ht] at hv he
  have q1 : IntKind.u64.wrap ((x : Int) * (M : Int)) = (s : Int) := by rw [← Int.natCast_mul, hs]; exact wrap64_nat s (by omega)
  have q2 : IntKind.u64.wrap ((s : Int) + (r : Int)) = (t : Int) := by rw [← Int.natCast_add, ht]; exact wrap64_nat t (by omega)
  have q3 : IntKind.u64.wrap ((t : Int) + (H : Int)) = (v : Int) := by rw [← Int.natCast_add, Nat.add_comm, hv]; exact wrap64_nat v (by omega)
  clear hv hf b1 hs ht
  go_enter Tryd.func29, Tryd.ntmps29
  go_wp2_with fail
  obtain ⟨V, hV, z0, BW, sW⟩ := fframe1 w 29 (B : Int) (P : Int) (W : Int)
  rw [hV]
  clear hV sW
  obtain ⟨z0c0, z0c1, z0c2, z0f0, z0f1, z0f2, z0l⟩ := z0.cells
  refine (HP.out _).mono ?_
  rintro en w' ⟨rfl, rfl⟩
  go_wp2_with fail
  refine (HB.out _).mono ?_
  rintro en w' ⟨rfl, rfl⟩
  go_wp2_with fail
  go_ret
  exact ⟨rfl, BW⟩
theorem build_as {B P W M E H : Nat} {low : Int} (hf : Fm B P W M E H low) (neg : Bool) (x r v : Nat) (he : x * M + r < H) (hv : sgn H neg (x * M + r) = v) (w : World) :
    Calls Tryd.prog 29 #[.agg #[.int .i64 (B : Int), .int .i64 (P : Int), .int .i64 (W : Int)], .bool neg, .int .u64 (x : Int), .int .u64 (r : Int)] w fun e w' => e = .returned (.int .u64 (v : Int)) ∧ Below w.heap.size w w' := by
  cases neg
  · exact build_pos hf x r v he hv w
  · exact build_neg hf x r v he hv w
theorem build_nil {B P W M E H : Nat} {low : Int} (hf : Fm B P W M E H low) (neg : Bool) (x v : Nat) (he : x * M < H) (hv : sgn H neg (x * M) = v) (w : World) :
    Calls Tryd.prog 29 #[.agg #[.int .i64 (B : Int), .int .i64 (P : Int), .int .i64 (W : Int)], .bool neg, .int .u64 (x : Int), .int .u64 0] w fun e w' => e = .returned (.int .u64 (v : Int)) ∧ Below w.heap.size w w' :=
  build_as hf neg x 0 v he hv w
theorem build_low {B P W M E H : Nat} {low : Int} (hf : Fm B P W M E H low) (neg : Bool) (r v : Nat) (he : r < H) (hv : sgn H neg r = v) (w : World) :
    Calls Tryd.prog 29 #[.agg #[.int .i64 (B : Int), .int .i64 (P : Int), .int .i64 (W : Int)], .bool neg, .int .u64 0, .int .u64 (r : Int)] w fun e w' => e = .returned (.int .u64 (v : Int)) ∧ Below w.heap.size w w' :=
  build_as hf neg 0 r v (by omega) (by rw [Nat.zero_mul, Nat.zero_add, hv]) w
theorem build_none {B P W M E H : Nat} {low : Int} (hf : Fm B P W M E H low) (neg : Bool) (v : Nat) (hv : sgn H neg 0 = v) (w : World) :
    Calls Tryd.prog 29 #[.agg #[.int .i64 (B : Int), .int .i64 (P : Int), .int .i64 (W : Int)], .bool neg, .int .u64 0, .int .u64 0] w fun e w' => e = .returned (.int .u64 (v : Int)) ∧ Below w.heap.size w w' :=
  build_low hf neg 0 v (by have := hf.bd; omega) hv w
theorem rinfinite_as {B P W M E H : Nat} {low : Int} (hf : Fm B P W M E H low) (neg : Bool) (v : Nat) (hv : sgn H neg (M * E) = v) (w : World) :
    Calls Tryd.prog 25 #[.agg #[.int .i64 (B : Int), .int .i64 (P : Int), .int .i64 (W : Int)], .bool neg] w fun e w' => e = .returned (.int .u64 (v : Int)) ∧ Below w.heap.size w w' := by
  obtain ⟨b1, b2, b3, b4, b5, b6, b7, b8, b9, b10, b11, b12, b13, b14, b15⟩ := hf.bd
  obtain ⟨e1, e2⟩ := hf.hlf
  have e3 : M * E + M = H := by rw [← e1, Nat.mul_add, Nat.mul_one]
  have e4 : M * E = E * M := Nat.mul_comm _ _
  have e5 : (E - 1) * M + M = E * M := by rw [show E * M = (E - 1 + 1) * M by congr 1; omega, Nat.add_mul, Nat.one_mul]
  obtain ⟨F, hF⟩ : ∃ F, E + 1 = F := ⟨_, rfl⟩
  have HW := Lib.hid (fun (V : World) => power_b W F (by omega) (by rw [hf.pW, hF]) (W : Int) rfl V)
  have HG := Lib.hid (fun (V : World) => build_nil hf neg E v (by omega) (by rw [← hv]; congr 1; omega) V)
  have q1 : IntKind.u64.wrap ((F : Int) - 1) = (E : Int) := by rw [show (F : Int) - 1 = ((E : Nat) : Int) by omega]; exact wrap64_nat E (by omega)
  clear hv hf b1 e1 e2 e3 e4 e5 hF
  go_enter Tryd.func25, Tryd.ntmps25
  go_wp2_with fail
  obtain ⟨V, hV, z0, BW, sW⟩ := fframe1 w 29 (B : Int) (P : Int) (W : Int)
  rw [hV]
  clear hV sW
  replace z0 := z0.on ((Below.refl _ _).drew : Below V.heap.size V V.drew)
  replace BW := Lib.hid (Below.step BW ((Below.refl _ _).drew : Below V.heap.size V V.drew))
  go_region_held3 (fun w' => w'.cell? ⟨w.heap.size, 0, none⟩ = some (.int .i64 (B : Int)) ∧ w'.cell? ⟨w.heap.size, 1, none⟩ = some (.int .i64 (P : Int)) ∧ w'.cell? ⟨w.heap.size, 2, none⟩ = some (.int .i64 (W : Int)))
    ((exact ⟨z0.cells.1, z0.cells.2.1, z0.cells.2.2.1⟩))
    (first
      | (go_at_call 41
         (with_reducible refine (HW.out _).mono ?_)
         rintro en w1 ⟨rfl, b⟩
         replace z0 := z0.on b
         replace BW := Lib.hid (Below.step BW.out b)
         clear b)
      | (go_at_call 29
         (with_reducible refine (HG.out _).mono ?_)
         rintro en w2 ⟨rfl, b⟩
         replace z0 := z0.on b
         replace BW := Lib.hid (Below.step BW.out b)
         clear b))
  replace BW := BW.out
  go_wp2_with fail
  go_ret
  exact ⟨rfl, BW⟩
theorem rgreatest_as {B P W M E H : Nat} {low : Int} (hf : Fm B P W M E H low) (neg : Bool) (v : Nat) (hv : sgn H neg (M * E - 1) = v) (w : World) :
    Calls Tryd.prog 27 #[.agg #[.int .i64 (B : Int), .int .i64 (P : Int), .int .i64 (W : Int)], .bool neg] w fun e w' => e = .returned (.int .u64 (v : Int)) ∧ Below w.heap.size w w' := by
  obtain ⟨b1, b2, b3, b4, b5, b6, b7, b8, b9, b10, b11, b12, b13, b14, b15⟩ := hf.bd
  obtain ⟨e1, e2⟩ := hf.hlf
  have e3 : M * E + M = H := by rw [← e1, Nat.mul_add, Nat.mul_one]
  have e4 : M * E = E * M := Nat.mul_comm _ _
  have e5 : (E - 1) * M + M = E * M := by rw [show E * M = (E - 1 + 1) * M by congr 1; omega, Nat.add_mul, Nat.one_mul]
  obtain ⟨F, hF⟩ : ∃ F, E + 1 = F := ⟨_, rfl⟩
  have HW := Lib.hid (fun (V : World) => power_b W F (by omega) (by rw [hf.pW, hF]) (W : Int) rfl V)
  have HP := Lib.hid (fun (V : World) => power_b (P - 1) M (by omega) hf.pP ((P : Int) - 1) (by omega) V)
  obtain ⟨x, hx⟩ : ∃ x, E - 1 = x := ⟨_, rfl⟩
  obtain ⟨r, hr⟩ : ∃ r, M - 1 = r := ⟨_, rfl⟩
  rw [hx] at e5
  have HG := Lib.hid (fun (V : World) => build_as hf neg x r v (by omega) (by rw [← hv]; congr 1; omega) V)
  have q0 : IntKind.i64.wrap ((P : Int) - 1) = (P : Int) - 1 := IntWalk.i64_in _ (by omega)
  have q1 : IntKind.u64.wrap ((F : Int) - 2) = (x : Int) := by rw [show (F : Int) - 2 = ((x : Nat) : Int) by omega]; exact wrap64_nat x (by omega)
  have q2 : IntKind.u64.wrap ((M : Int) - 1) = (r : Int) := by rw [show (M : Int) - 1 = ((r : Nat) : Int) by omega]; exact wrap64_nat r (by omega)
  clear hx hr
  clear hv hf b1 e1 e2 e3 e4 e5 hF
  go_enter Tryd.func27, Tryd.ntmps27
  go_wp2_with fail
  obtain ⟨V, hV, z0, BW, sW⟩ := fframe1 w 29 (B : Int) (P : Int) (W : Int)
  rw [hV]
  clear hV sW
  replace z0 := z0.on ((Below.refl _ _).drew : Below V.heap.size V V.drew)
  replace BW := Lib.hid (Below.step BW ((Below.refl _ _).drew : Below V.heap.size V V.drew))
  go_region_held3 (fun w' => w'.cell? ⟨w.heap.size, 0, none⟩ = some (.int .i64 (B : Int)) ∧ w'.cell? ⟨w.heap.size, 1, none⟩ = some (.int .i64 (P : Int)) ∧ w'.cell? ⟨w.heap.size, 2, none⟩ = some (.int .i64 (W : Int)))
    ((exact ⟨z0.cells.1, z0.cells.2.1, z0.cells.2.2.1⟩))
    (first
      | (go_at_call 41
         (with_reducible refine (HW.out _).mono ?_)
         rintro en w1 ⟨rfl, b⟩
         replace z0 := z0.on b
         replace BW := Lib.hid (Below.step BW.out b)
         clear b)
      | (go_at_call 41
         (with_reducible refine (HP.out _).mono ?_)
         rintro en w2 ⟨rfl, b⟩
         replace z0 := z0.on b
         replace BW := Lib.hid (Below.step BW.out b)
         clear b)
      | (go_at_call 29
         (with_reducible refine (HG.out _).mono ?_)
         rintro en w3 ⟨rfl, b⟩
         replace z0 := z0.on b
         replace BW := Lib.hid (Below.step BW.out b)
         clear b))
  replace BW := BW.out
  go_wp2_with fail
  go_ret
  exact ⟨rfl, BW⟩
theorem rnone_as {B P W M E H : Nat} {low : Int} (hf : Fm B P W M E H low) (v : Nat) (hv : M * E + M / 2 = v) (w : World) :
    Calls Tryd.prog 31 #[.agg #[.int .i64 (B : Int), .int .i64 (P : Int), .int .i64 (W : Int)]] w fun e w' => e = .returned (.int .u64 (v : Int)) ∧ Below w.heap.size w w' := by
  obtain ⟨b1, b2, b3, b4, b5, b6, b7, b8, b9, b10, b11, b12, b13, b14, b15⟩ := hf.bd
  obtain ⟨e1, e2⟩ := hf.hlf
  have e3 : M * E + M = H := by rw [← e1, Nat.mul_add, Nat.mul_one]
  have e4 : M * E = E * M := Nat.mul_comm _ _
  have e5 : (E - 1) * M + M = E * M := by rw [show E * M = (E - 1 + 1) * M by congr 1; omega, Nat.add_mul, Nat.one_mul]
  obtain ⟨F, hF⟩ : ∃ F, E + 1 = F := ⟨_, rfl⟩
  have HW := Lib.hid (fun (V : World) => power_b W F (by omega) (by rw [hf.pW, hF]) (W : Int) rfl V)
  obtain ⟨r, hr⟩ : ∃ r, M / 2 = r := ⟨_, rfl⟩
  have HP := Lib.hid (fun (V : World) => power_b (P - 2) r (by omega) (by rw [hf.pQ, hr]) ((P : Int) - 2) (by omega) V)
  have HG := Lib.hid (fun (V : World) => build_as hf false E r v (by omega) (by rw [← hv, hr]; show E * M + r = M * E + r; omega) V)
  have q0 : IntKind.i64.wrap ((P : Int) - 2) = (P : Int) - 2 := IntWalk.i64_in _ (by omega)
  have q1 : IntKind.u64.wrap ((F : Int) - 1) = (E : Int) := by rw [show (F : Int) - 1 = ((E : Nat) : Int) by omega]; exact wrap64_nat E (by omega)
  clear hr
  clear hv hf b1 e1 e2 e3 e4 e5 hF
  go_enter Tryd.func31, Tryd.ntmps31
  go_wp2_with fail
  obtain ⟨V, hV, z0, BW, sW⟩ := fframe1 w 29 (B : Int) (P : Int) (W : Int)
  rw [hV]
  clear hV sW
  replace z0 := z0.on ((Below.refl _ _).drew : Below V.heap.size V V.drew)
  replace BW := Lib.hid (Below.step BW ((Below.refl _ _).drew : Below V.heap.size V V.drew))
  go_region_held3 (fun w' => w'.cell? ⟨w.heap.size, 0, none⟩ = some (.int .i64 (B : Int)) ∧ w'.cell? ⟨w.heap.size, 1, none⟩ = some (.int .i64 (P : Int)) ∧ w'.cell? ⟨w.heap.size, 2, none⟩ = some (.int .i64 (W : Int)))
    ((exact ⟨z0.cells.1, z0.cells.2.1, z0.cells.2.2.1⟩))
    (first
      | (go_at_call 41
         (with_reducible refine (HW.out _).mono ?_)
         rintro en w1 ⟨rfl, b⟩
         replace z0 := z0.on b
         replace BW := Lib.hid (Below.step BW.out b)
         clear b)
      | (go_at_call 41
         (with_reducible refine (HP.out _).mono ?_)
         rintro en w2 ⟨rfl, b⟩
         replace z0 := z0.on b
         replace BW := Lib.hid (Below.step BW.out b)
         clear b)
      | (go_at_call 29
         (with_reducible refine (HG.out _).mono ?_)
         rintro en w3 ⟨rfl, b⟩
         replace z0 := z0.on b
         replace BW := Lib.hid (Below.step BW.out b)
         clear b))
  replace BW := BW.out
  go_wp2_with fail
  go_ret
  exact ⟨rfl, BW⟩
theorem half_bit {r Q M : Nat} (hM : M = 2 * Q) (hr : r < M) : r / Q % 2 = 1 ↔ Q ≤ r := by
  have hQ : 0 < Q := by omega
  constructor
  · intro h
    rcases Nat.lt_or_ge r Q with h1 | h1
    · rw [Nat.div_eq_of_lt h1] at h; omega
    · exact h1
  · intro h
    have h1 : r = (r - Q) + Q * 1 := by omega
    rw [h1, Nat.add_mul_div_left _ _ hQ, Nat.div_eq_of_lt (by omega)]
set_option maxHeartbeats 1000000 in
theorem rclass_as {B P W M E H : Nat} {low : Int} (hf : Fm B P W M E H low) (b : Nat) (v : Int) (hb : b < 18446744073709551616) (hv : clsS M E b = v) (w : World) :
    Calls Tryd.prog 20 #[.agg #[.int .i64 (B : Int), .int .i64 (P : Int), .int .i64 (W : Int)], .int .u64 (b : Int)] w fun e w' => e = .returned (.int .i64 v) ∧ Below w.heap.size w w' := by
  obtain ⟨b1, b2, b3, b4, b5, b6, b7, b8, b9, b10, b11, b12, b13, b14, b15⟩ := hf.bd
  unfold clsS at hv
  obtain ⟨r, hr⟩ : ∃ r, b % M = r := ⟨_, rfl⟩
  obtain ⟨x, hx⟩ : ∃ x, b / M % (E + 1) = x := ⟨_, rfl⟩
  obtain ⟨s, hs⟩ : ∃ s, b / H % 2 = s := ⟨_, rfl⟩
  obtain ⟨y, hy⟩ : ∃ y, decide (¬ b < 2 * H) = y := ⟨_, rfl⟩
  obtain ⟨Q, hQ⟩ : ∃ Q, M / 2 = Q := ⟨_, rfl⟩
  obtain ⟨F, hF⟩ : ∃ F, E + 1 = F := ⟨_, rfl⟩
  have hr2 : r < M := by rw [← hr]; exact Nat.mod_lt _ (by omega)
  have hx2 : x < E + 1 := by rw [← hx]; exact Nat.mod_lt _ (by omega)
  have HT := Lib.hid (fun (V : World) => parts_as hf b s x r y hb hs hx hr hy V)
  have HW := Lib.hid (fun (V : World) => power_as W F (by omega) (by rw [hf.pW, hF]) (W : Int) rfl V)
  have HQ := Lib.hid (fun (V : World) => power_as (P - 2) Q (by omega) (by rw [hf.pQ, hQ]) ((P : Int) - 2) (by omega) V)
  have hh := half_bit (r := r) (Q := Q) (by have := hf.hlf.2; omega) hr2
  rw [hr, hx, hQ] at hv
  have q1 : IntKind.u64.wrap ((F : Int) - 1) = (E : Int) := by rw [show (F : Int) - 1 = ((E : Nat) : Int) by omega]; exact wrap64_nat E (by omega)
  clear hr hx hQ hs hy hf b1
  by_cases c1 : x = 0
  · rw [if_pos c1] at hv
    subst c1
    clear hh
    by_cases c2 : r = 0
    · rw [if_pos c2] at hv
      subst c2 hv
      clear hF
      go_enter Tryd.func20, Tryd.ntmps20
      go_wp2_with fail
      obtain ⟨V, hV, z0, BW, sW⟩ := fframe1 w 29 (B : Int) (P : Int) (W : Int)
      rw [hV]
      clear hV sW
      refine (HT.out _).mono ?_
      rintro en w1 ⟨rfl, b⟩
      replace z0 := z0.on b
      replace BW := Below.step BW b
      clear b
      obtain ⟨z0c0, z0c1, z0c2, z0f0, z0f1, z0f2, z0l⟩ := z0.cells
      go_wp2_with fail
      refine (HW.out _).mono ?_
      rintro en w' ⟨rfl, rfl⟩
      go_wp2_with fail
      go_ret
      exact ⟨rfl, BW⟩
    · rw [if_neg c2] at hv
      subst hv
      clear hF
      have d2 : ((r : Int) == 0) = false := by simp; omega
      go_enter Tryd.func20, Tryd.ntmps20
      go_wp2_with fail
      obtain ⟨V, hV, z0, BW, sW⟩ := fframe1 w 29 (B : Int) (P : Int) (W : Int)
      rw [hV]
      clear hV sW
      refine (HT.out _).mono ?_
      rintro en w1 ⟨rfl, b⟩
      replace z0 := z0.on b
      replace BW := Below.step BW b
      clear b
      obtain ⟨z0c0, z0c1, z0c2, z0f0, z0f1, z0f2, z0l⟩ := z0.cells
      go_wp2_with fail
      refine (HW.out _).mono ?_
      rintro en w' ⟨rfl, rfl⟩
      go_wp2_with fail
      go_ret
      exact ⟨rfl, BW⟩
  · rw [if_neg c1] at hv
    have d1 : ((x : Int) == 0) = false := by simp; omega
    by_cases c3 : x ≠ E
    · rw [if_pos c3] at hv
      subst hv
      have d3 : decide ((x : Int) < (E : Int)) = true := decide_eq_true (by omega)
      clear hh hF
      go_enter Tryd.func20, Tryd.ntmps20
      go_wp2_with fail
      obtain ⟨V, hV, z0, BW, sW⟩ := fframe1 w 29 (B : Int) (P : Int) (W : Int)
      rw [hV]
      clear hV sW
      refine (HT.out _).mono ?_
      rintro en w1 ⟨rfl, b⟩
      replace z0 := z0.on b
      replace BW := Below.step BW b
      clear b
      obtain ⟨z0c0, z0c1, z0c2, z0f0, z0f1, z0f2, z0l⟩ := z0.cells
      go_wp2_with fail
      refine (HW.out _).mono ?_
      rintro en w' ⟨rfl, rfl⟩
      go_wp2_with fail
      go_ret
      exact ⟨rfl, BW⟩
    · rw [if_neg c3] at hv
      obtain rfl : x = E := by omega
      have d3 : decide ((x : Int) < (x : Int)) = false := decide_eq_false (by omega)
      clear c3 hF
      by_cases c2 : r = 0
      · rw [if_pos c2] at hv
        subst c2 hv
        clear hh
        go_enter Tryd.func20, Tryd.ntmps20
        go_wp2_with fail
        obtain ⟨V, hV, z0, BW, sW⟩ := fframe1 w 29 (B : Int) (P : Int) (W : Int)
        rw [hV]
        clear hV sW
        refine (HT.out _).mono ?_
        rintro en w1 ⟨rfl, b⟩
        replace z0 := z0.on b
        replace BW := Below.step BW b
        clear b
        obtain ⟨z0c0, z0c1, z0c2, z0f0, z0f1, z0f2, z0l⟩ := z0.cells
        go_wp2_with fail
        refine (HW.out _).mono ?_
        rintro en w' ⟨rfl, rfl⟩
        go_wp2_with fail
        go_ret
        exact ⟨rfl, BW⟩
      · rw [if_neg c2] at hv
        have d2 : ((r : Int) == 0) = false := by simp; omega
        by_cases c4 : r / Q % 2 = 1
        · rw [if_pos c4] at hv
          subst hv
          have d4 : decide (Q ≤ r) = true := decide_eq_true (hh.1 c4)
          clear hh c4
          go_enter Tryd.func20, Tryd.ntmps20
          go_wp2_with fail
          obtain ⟨V, hV, z0, BW, sW⟩ := fframe1 w 29 (B : Int) (P : Int) (W : Int)
          rw [hV]
          clear hV sW
          refine (HT.out _).mono ?_
          rintro en w1 ⟨rfl, b⟩
          replace z0 := z0.on b
          replace BW := Below.step BW b
          clear b
          obtain ⟨z0c0, z0c1, z0c2, z0f0, z0f1, z0f2, z0l⟩ := z0.cells
          go_wp2_with fail
          refine (HW.out _).mono ?_
          rintro en w' ⟨rfl, rfl⟩
          go_wp2_with fail
          refine (HQ.out _).mono ?_
          rintro en w' ⟨rfl, rfl⟩
          go_wp2_with fail
          go_ret
          exact ⟨rfl, BW⟩
        · rw [if_neg c4] at hv
          subst hv
          have d4 : decide (Q ≤ r) = false := decide_eq_false (fun h => c4 (hh.2 h))
          clear hh c4
          go_enter Tryd.func20, Tryd.ntmps20
          go_wp2_with fail
          obtain ⟨V, hV, z0, BW, sW⟩ := fframe1 w 29 (B : Int) (P : Int) (W : Int)
          rw [hV]
          clear hV sW
          refine (HT.out _).mono ?_
          rintro en w1 ⟨rfl, b⟩
          replace z0 := z0.on b
          replace BW := Below.step BW b
          clear b
          obtain ⟨z0c0, z0c1, z0c2, z0f0, z0f1, z0f2, z0l⟩ := z0.cells
          go_wp2_with fail
          refine (HW.out _).mono ?_
          rintro en w' ⟨rfl, rfl⟩
          go_wp2_with fail
          refine (HQ.out _).mono ?_
          rintro en w' ⟨rfl, rfl⟩
          go_wp2_with fail
          go_ret
          exact ⟨rfl, BW⟩
/-- bits by their parts. -/
theorem bits_parts {B P W M E H : Nat} {low : Int} (hf : Fm B P W M E H low) (b : Nat) : b % (2 * H) = b / H % 2 * H + (b / M % (E + 1) * M + b % M) ∧ b / M % (E + 1) * M + b % M < H := by
  obtain ⟨e1, e2⟩ := hf.hlf
  have hM : 0 < M := by have := hf.bd; omega
  have h1 : b % H = b / M % (E + 1) * M + b % M := by
    rw [← e1, Nat.mod_mul, Nat.mul_comm M, Nat.add_comm]
  refine ⟨?_, by rw [← h1]; exact Nat.mod_lt _ (by have := hf.bd; omega)⟩
  rw [← h1, Nat.mul_comm 2 H, Nat.mod_mul, Nat.mul_comm H, Nat.add_comm]
theorem qts_high {B P W M E H : Nat} {low : Int} (hf : Fm B P W M E H low) (b : Nat) : b % (2 * H) / (M / 2) % 2 = b % M / (M / 2) % 2 := by
  obtain ⟨e1, e2⟩ := hf.hlf
  have hM : 0 < M / 2 := by have := hf.bd; omega
  rw [(bits_parts hf b).1]
  generalize b / H % 2 = s
  generalize b / M % (E + 1) = x
  generalize b % M = r
  generalize M / 2 = Q at *
  have h : s * H + (x * M + r) = r + Q * (2 * (s * (E + 1) + x)) := by
    have h1 : s * (2 * Q * (E + 1)) = 2 * (Q * (s * (E + 1))) := by ac_rfl
    have h2 : x * (2 * Q) = 2 * (Q * x) := by ac_rfl
    have h3 : Q * (2 * (s * (E + 1) + x)) = 2 * (Q * (s * (E + 1))) + 2 * (Q * x) := by rw [Nat.mul_left_comm, Nat.mul_add, Nat.mul_add]
    rw [← e1, e2, h1, h2, h3]
    omega
  rw [h, Nat.add_mul_div_left _ _ hM]
  omega
set_option maxHeartbeats 1000000 in
theorem rquieted_as {B P W M E H : Nat} {low : Int} (hf : Fm B P W M E H low) (b v : Nat) (hb : b < 18446744073709551616) (hv : qtS M H b = v) (w : World) :
    Calls Tryd.prog 33 #[.agg #[.int .i64 (B : Int), .int .i64 (P : Int), .int .i64 (W : Int)], .int .u64 (b : Int)] w fun e w' => e = .returned (.int .u64 (v : Int)) ∧ Below w.heap.size w w' := by
  obtain ⟨b1, b2, b3, b4, b5, b6, b7, b8, b9, b10, b11, b12, b13, b14, b15⟩ := hf.bd
  obtain ⟨p1, p2⟩ := bits_parts hf b
  unfold qtS at hv
  rw [qts_high hf b, p1] at hv
  obtain ⟨r, hr⟩ : ∃ r, b % M = r := ⟨_, rfl⟩
  obtain ⟨x, hx⟩ : ∃ x, b / M % (E + 1) = x := ⟨_, rfl⟩
  obtain ⟨s, hs⟩ : ∃ s, b / H % 2 = s := ⟨_, rfl⟩
  obtain ⟨y, hy⟩ : ∃ y, decide (¬ b < 2 * H) = y := ⟨_, rfl⟩
  obtain ⟨Q, hQ⟩ : ∃ Q, M / 2 = Q := ⟨_, rfl⟩
  have hr2 : r < M := by rw [← hr]; exact Nat.mod_lt _ (by omega)
  have hs2 : s < 2 := by rw [← hs]; exact Nat.mod_lt _ (by omega)
  have HT := Lib.hid (fun (V : World) => parts_as hf b s x r y hb hs hx hr hy V)
  have HQ := Lib.hid (fun (V : World) => power_as (P - 2) Q (by omega) (by rw [hf.pQ, hQ]) ((P : Int) - 2) (by omega) V)
  have hMQ := hf.hlf.2
  rw [hQ] at hMQ
  have hh := half_bit hMQ hr2
  obtain ⟨e1, _⟩ := hf.hlf
  rw [hr, hx, hs, hQ] at hv
  rw [hr, hx] at p2
  have hx2 : x < E + 1 := by rw [← hx]; exact Nat.mod_lt _ (by omega)
  have e6 : x * M + M ≤ H := by
    have h1 : (x + 1) * M ≤ (E + 1) * M := Nat.mul_le_mul_right _ (by omega)
    rw [Nat.add_mul, Nat.one_mul, Nat.mul_comm (E + 1), e1] at h1
    exact h1
  have hsg : ∀ t, s * H + t = sgn H (decide (s = 1)) t := fun t => by
    unfold sgn
    rcases Nat.lt_or_ge s 1 with h | h
    · obtain rfl : s = 0 := by omega
      simp
    · obtain rfl : s = 1 := by omega
      simp
  have q0 : ((s : Int) == 1) = decide (s = 1) := by rw [Bool.eq_iff_iff]; simp; omega
  by_cases c : r / Q % 2 = 1
  · rw [if_pos c] at hv
    have d1 : decide (r < Q) = false := decide_eq_false (by have := hh.1 c; omega)
    have HG := Lib.hid (fun (V : World) => build_as hf (decide (s = 1)) x r v p2 (by rw [← hsg, hv]) V)
    clear hv hf b1 hr hx hs hy hQ hMQ hh hsg c e1 e6 p1 p2
    go_enter Tryd.func33, Tryd.ntmps33
    go_wp2_with fail
    obtain ⟨V, hV, z0, BW, sW⟩ := fframe1 w 29 (B : Int) (P : Int) (W : Int)
    rw [hV]
    clear hV sW
    refine (HT.out _).mono ?_
    rintro en w1 ⟨rfl, b⟩
    replace z0 := z0.on b
    replace BW := Below.step BW b
    clear b
    obtain ⟨z0c0, z0c1, z0c2, z0f0, z0f1, z0f2, z0l⟩ := z0.cells
    go_wp2_with fail
    refine (HQ.out _).mono ?_
    rintro en w' ⟨rfl, rfl⟩
    go_wp2_with fail
    refine (HG.out _).mono ?_
    rintro en w2 ⟨rfl, b⟩
    clear z0c0 z0c1 z0c2 z0f0 z0f1 z0f2 z0l
    replace z0 := z0.on b
    replace BW := Below.step BW b
    clear b
    go_wp2_with fail
    go_ret
    exact ⟨rfl, BW⟩
  · rw [if_neg c] at hv
    have d1 : decide (r < Q) = true := decide_eq_true (by have := fun h => c (hh.2 h); omega)
    obtain ⟨t, ht⟩ : ∃ t, r + Q = t := ⟨_, rfl⟩
    have ht2 : t < M := by
      have := fun h => c (hh.2 h)
      omega
    have q1 : IntKind.u64.wrap ((r : Int) + (Q : Int)) = (t : Int) := by rw [← Int.natCast_add, ht]; exact wrap64_nat t (by omega)
    have HG := Lib.hid (fun (V : World) => build_as hf (decide (s = 1)) x t v (by omega) (by rw [← hsg, ← hv, ← ht]; omega) V)
    clear hv hf b1 hr hx hs hy hQ hMQ hh hsg c e1 e6 p1 p2 ht ht2
    go_enter Tryd.func33, Tryd.ntmps33
    go_wp2_with fail
    obtain ⟨V, hV, z0, BW, sW⟩ := fframe1 w 29 (B : Int) (P : Int) (W : Int)
    rw [hV]
    clear hV sW
    refine (HT.out _).mono ?_
    rintro en w1 ⟨rfl, b⟩
    replace z0 := z0.on b
    replace BW := Below.step BW b
    clear b
    obtain ⟨z0c0, z0c1, z0c2, z0f0, z0f1, z0f2, z0l⟩ := z0.cells
    go_wp2_with fail
    refine (HQ.out _).mono ?_
    rintro en w' ⟨rfl, rfl⟩
    go_wp2_with fail
    refine (HQ.out _).mono ?_
    rintro en w' ⟨rfl, rfl⟩
    go_wp2_with fail
    refine (HG.out _).mono ?_
    rintro en w2 ⟨rfl, b⟩
    clear z0c0 z0c1 z0c2 z0f0 z0f1 z0f2 z0l
    replace z0 := z0.on b
    replace BW := Below.step BW b
    clear b
    go_wp2_with fail
    go_ret
    exact ⟨rfl, BW⟩
theorem rof_16 (w : World) :
    Calls Tryd.prog 10 #[.int .i64 16] w fun e w' => e = .returned (.tuple #[.agg #[.int .i64 16, .int .i64 11, .int .i64 5], .int .i64 0]) ∧ Below w.heap.size w w' := by
  go_enter Tryd.func10, Tryd.ntmps10
  go_wp2_with fail
  obtain ⟨V, hV, z0, BW, sW⟩ := fframe1 w 29 16 11 5
  rw [hV]
  clear hV sW
  obtain ⟨z0c0, z0c1, z0c2, z0f0, z0f1, z0f2, z0l⟩ := z0.cells
  refine bodyPost_ret (v := .tuple #[.agg #[.int .i64 16, .int .i64 11, .int .i64 5], .int .i64 0]) (by simp [results, Tryd.results10, go_sem, z0c0, z0c1, z0c2]) rfl ⟨rfl, ?_⟩
  exact BW
theorem rof_32 (w : World) :
    Calls Tryd.prog 10 #[.int .i64 32] w fun e w' => e = .returned (.tuple #[.agg #[.int .i64 32, .int .i64 24, .int .i64 8], .int .i64 0]) ∧ Below w.heap.size w w' := by
  go_enter Tryd.func10, Tryd.ntmps10
  go_wp2_with fail
  obtain ⟨V, hV, z0, BW, sW⟩ := fframe1 w 29 32 24 8
  rw [hV]
  clear hV sW
  obtain ⟨z0c0, z0c1, z0c2, z0f0, z0f1, z0f2, z0l⟩ := z0.cells
  refine bodyPost_ret (v := .tuple #[.agg #[.int .i64 32, .int .i64 24, .int .i64 8], .int .i64 0]) (by simp [results, Tryd.results10, go_sem, z0c0, z0c1, z0c2]) rfl ⟨rfl, ?_⟩
  exact BW
theorem rof_64 (w : World) :
    Calls Tryd.prog 10 #[.int .i64 64] w fun e w' => e = .returned (.tuple #[.agg #[.int .i64 64, .int .i64 53, .int .i64 11], .int .i64 0]) ∧ Below w.heap.size w w' := by
  go_enter Tryd.func10, Tryd.ntmps10
  go_wp2_with fail
  obtain ⟨V, hV, z0, BW, sW⟩ := fframe1 w 29 64 53 11
  rw [hV]
  clear hV sW
  obtain ⟨z0c0, z0c1, z0c2, z0f0, z0f1, z0f2, z0l⟩ := z0.cells
  refine bodyPost_ret (v := .tuple #[.agg #[.int .i64 64, .int .i64 53, .int .i64 11], .int .i64 0]) (by simp [results, Tryd.results10, go_sem, z0c0, z0c1, z0c2]) rfl ⟨rfl, ?_⟩
  exact BW
theorem rof_bad (n : Int) (h1 : n ≠ 16) (h2 : n ≠ 32) (h3 : n ≠ 64) (w : World) :
    Calls Tryd.prog 10 #[.int .i64 n] w fun e w' => e = .returned (.tuple #[.agg #[.int .i64 0, .int .i64 0, .int .i64 0], .int .i64 1]) ∧ Below w.heap.size w w' := by
  have d0 : (n == (16 : Int)) = false := by simp; omega
  have d1 : (n == (32 : Int)) = false := by simp; omega
  have d2 : (n == (64 : Int)) = false := by simp; omega
  go_enter Tryd.func10, Tryd.ntmps10
  go_wp2_with fail
  obtain ⟨V, hV, z0, BW, sW⟩ := fframe1 w 29 0 0 0
  rw [hV]
  clear hV sW
  obtain ⟨z0c0, z0c1, z0c2, z0f0, z0f1, z0f2, z0l⟩ := z0.cells
  refine bodyPost_ret (v := .tuple #[.agg #[.int .i64 0, .int .i64 0, .int .i64 0], .int .i64 1]) (by simp [results, Tryd.results10, go_sem, z0c0, z0c1, z0c2]) rfl ⟨rfl, ?_⟩
  exact BW
theorem rof_fm {B P W M E H : Nat} {low : Int} (hf : Fm B P W M E H low) (w : World) :
    Calls Tryd.prog 10 #[.int .i64 (B : Int)] w fun e w' => e = .returned (.tuple #[.agg #[.int .i64 (B : Int), .int .i64 (P : Int), .int .i64 (W : Int)], .int .i64 0]) ∧ Below w.heap.size w w' := by
  rcases hf with ⟨rfl, rfl, rfl, rfl, rfl, rfl, rfl⟩ | ⟨rfl, rfl, rfl, rfl, rfl, rfl, rfl⟩ | ⟨rfl, rfl, rfl, rfl, rfl, rfl, rfl⟩
  · exact rof_16 w
  · exact rof_32 w
  · exact rof_64 w
end Go.Proofs.YtflicmdgijghaaaDoor
