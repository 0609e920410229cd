
/-
  The walk of the statements' awake (layer 4): calls whose answers the document fixes.
-/
import Derived.Test.YtpachoeignpcbaaGreatDoorKB
import Derived.Test.YtpachoeignpcbaaGreatDoorFR
import Derived.Test.YtpachoeignpcbaaGreatDoorFw
import Derived.Test.YtpachoeignpcbaaGreatDoorLex
namespace Go.Proofs.YtpachoeignpcbaaGreatDoor
open Go.RowKit
set_option linter.unusedVariables false

theorem ev4_of2049 : ofD (2049) = ⟨false, 2049, 0⟩ := ev_of (2049) 0 2049 rfl rfl rfl rfl
theorem ev4_of65505 : ofD (65505) = ⟨false, 65505, 0⟩ := ev_of (65505) 0 65505 rfl rfl rfl rfl
theorem ev4_om2049 : ofD (-2049) = ⟨true, 2049, 0⟩ := ev_of (-2049) 0 2049 rfl rfl rfl rfl
theorem ev4_of2048 : ofD (-2048) = ⟨true, 1, 11⟩ := ev_of (-2048) 11 1 rfl rfl rfl rfl
theorem ev4_of2050 : ofD (-2050) = ⟨true, 1025, 1⟩ := ev_of (-2050) 1 1025 rfl rfl rfl rfl
theorem ev4_one : ofD 1 = ⟨false, 1, 0⟩ := ev_of 1 0 1 rfl rfl rfl rfl
theorem upB_scale (mode : Int) (neg : Bool) (c r U K : Nat) (hK : 0 < K) : upB mode neg c (r * K) (U * K) = upB mode neg c r U := by
  unfold upB
  by_cases hr : r = 0
  · rw [if_pos hr, if_pos (by rw [hr, Nat.zero_mul])]
  · rw [if_neg hr, if_neg (by intro h; rcases Nat.mul_eq_zero.1 h with h | h <;> omega)]
    have e1 : 2 * (r * K) = (2 * r) * K := (Nat.mul_assoc _ _ _).symm
    have l1 : U * K < (2 * r) * K ↔ U < 2 * r := Nat.mul_lt_mul_right hK
    have l2 : (2 * r) * K = U * K ↔ 2 * r = U := Nat.mul_left_inj (by omega)
    have l3 : U * K ≤ (2 * r) * K ↔ U ≤ 2 * r := Nat.mul_le_mul_right_iff hK
    have d1 : decide (U * K < 2 * (r * K) ∨ (2 * (r * K) = U * K ∧ c % 2 = 1)) = decide (U < 2 * r ∨ (2 * r = U ∧ c % 2 = 1)) := decide_eq_decide.2 (by rw [e1, l1, l2])
    have d2 : decide (U * K ≤ 2 * (r * K)) = decide (U ≤ 2 * r) := decide_eq_decide.2 (by rw [e1, l3])
    rw [d1, d2]
theorem rC_eval {B P W M E H : Nat} {low : Int} (hf : Fm B P W M E H low) {mode : Int} {neg : Bool} {x : Nat} {e : Int} (h0 : x ≠ 0) (he : -40000 ≤ e) (k c : Nat) (hp : plcS P low ⟨neg, x, e⟩ = e + (k : Int)) (hc : (e + (k : Int) - low).toNat * M + x / 2 ^ k = c) :
    rC P M low mode neg (⟨neg, x, e⟩ : D).vl.natAbs = c + (if upB mode neg c (x % 2 ^ k) (2 ^ k) then 1 else 0) := by
  have hplc := plc_cell (P := P) (low := low) (a := ⟨neg, x, e⟩) h0 he
  rw [hp] at hplc
  obtain ⟨fs1, fs2⟩ := flC_spec hf (⟨neg, x, e⟩ : D).vl.natAbs
  have hA : (⟨neg, x, e⟩ : D).vl.natAbs = x * 2 ^ (e + 40000).toNat := D.vl_natAbs _
  have hT : (e + (k : Int) + 40000).toNat = k + (e + 40000).toNat := by omega
  obtain ⟨K, hK⟩ : ∃ K, 2 ^ (e + 40000).toNat = K := ⟨_, rfl⟩
  have hK0 : 0 < K := by rw [← hK]; exact Nat.two_pow_pos _
  have hfl : flC P M low (⟨neg, x, e⟩ : D).vl.natAbs = c := by
    unfold flC
    rw [← hplc, hA, hT, Nat.pow_add, Nat.mul_div_mul_right _ _ (Nat.two_pow_pos _), hc]
  unfold rC
  rw [hfl] at fs1 fs2 ⊢
  rw [← hplc, hT, Nat.pow_add, hA, hK, Nat.mul_div_mul_right _ _ hK0] at fs1
  rw [← hplc, hT, Nat.pow_add, hK] at fs2
  rw [fs1, fs2, hA, hK]
  have hdm := Nat.div_add_mod x (2 ^ k)
  rw [show x * K - x / 2 ^ k * (2 ^ k * K) = x % 2 ^ k * K by
    rw [← Nat.mul_assoc, ← Nat.sub_mul, Nat.mul_comm (x / 2 ^ k)]
    exact congrArg (· * K) (show x - 2 ^ k * (x / 2 ^ k) = x % 2 ^ k by omega), upB_scale _ _ _ _ _ _ hK0]
theorem roundS_in {B P W M E H : Nat} {low : Int} (hf : Fm B P W M E H low) {mode : Int} (hmode : 0 ≤ mode ∧ mode ≤ 4) {neg ng : Bool} {x : Nat} {e : Int} (hm : mayR ⟨neg, x, e⟩ = true) (h0 : x ≠ 0) (he : -40000 ≤ e) (k c d v : Nat) (fl : Int) (hp : plcS P low ⟨neg, x, e⟩ = e + (k : Int)) (hc : (e + (k : Int) - low).toNat * M + x / 2 ^ k = c)
    (hd : c + (if upB mode neg c (x % 2 ^ k) (2 ^ k) then 1 else 0) = d) (hlt : d < M * E) (hv : sgn H neg d = v) (hfl : (if decide (x % 2 ^ k ≠ 0) then if decide ((blen x : Int) - 1 + e < low + (P : Int) - 1) then (3 : Int) else 1 else 0) = fl) :
    roundS P M E H low mode ⟨neg, x, e⟩ ng = (v, fl, 0) := by
  have hr := rC_eval hf (mode := mode) h0 he k c hp hc
  rw [hd] at hr
  have hg := flags_flg hf (a := ⟨neg, x, e⟩) h0 he hp
  rw [show decide ((⟨neg, x, e⟩ : D).vl.natAbs % 2 ^ (e + (k : Int) + 40000).toNat ≠ 0) = decide (x % 2 ^ k ≠ 0) by
    rw [D.vl_natAbs, show (e + (k : Int) + 40000).toNat = k + (e + 40000).toNat by omega, Nat.pow_add, Nat.mul_mod_mul_right]
    refine decide_eq_decide.2 ⟨fun h hx => h (by rw [hx, Nat.zero_mul]), fun h hx => h ?_⟩
    rcases Nat.mul_eq_zero.1 hx with h1 | h1
    · exact h1
    · exact absurd h1 (Nat.pos_iff_ne_zero.1 (Nat.two_pow_pos _)), hfl] at hg
  unfold roundS
  rw [if_neg (by omega), hm, if_pos rfl, if_neg h0]
  simp only
  rw [hr, if_pos hlt, hv, ← hg]
theorem roundS_out {B P W M E H : Nat} {low : Int} (hf : Fm B P W M E H low) {mode : Int} (hmode : 0 ≤ mode ∧ mode ≤ 4) {neg ng : Bool} {x : Nat} {e : Int} (hm : mayR ⟨neg, x, e⟩ = true) (h0 : x ≠ 0) (he : -40000 ≤ e) (k c d v : Nat) (hp : plcS P low ⟨neg, x, e⟩ = e + (k : Int)) (hc : (e + (k : Int) - low).toNat * M + x / 2 ^ k = c)
    (hd : c + (if upB mode neg c (x % 2 ^ k) (2 ^ k) then 1 else 0) = d) (hlt : M * E ≤ d) (hv : begS M E H mode neg = v) :
    roundS P M E H low mode ⟨neg, x, e⟩ ng = (v, 5, 0) := by
  have hr := rC_eval hf (mode := mode) h0 he k c hp hc
  rw [hd] at hr
  unfold roundS
  rw [if_neg (by omega), hm, if_pos rfl, if_neg h0]
  simp only
  rw [hr, if_neg (by omega), hv]
theorem mayR_small {neg : Bool} {x : Nat} {e : Int} (hx : x < 18446744073709551616) (h1 : -8000 ≤ e) (h2 : e ≤ 7000) : mayR ⟨neg, x, e⟩ = true := by
  have hb : blen x ≤ 64 := blen_lt_pow (by omega)
  refine mayR_of (may_small hx (by show -8192 ≤ e; omega) (by show e ≤ 8192; omega)) ?_ (by simp only; omega)
  obtain ⟨j1, j2, j3, j4, j5⟩ := pl_bounds (a := ⟨neg, x, e⟩) (may_small hx (by show -8192 ≤ e; omega) (by show e ≤ 8192; omega))
  have hl := D.pl_low (d := ⟨neg, x, e⟩) (m := -8192) (by show -8192 ≤ e; omega) (by omega)
  refine (D.may_iff _).2 ⟨j1, hl, ?_⟩
  by_cases h0 : x = 0
  · rw [D.pl_zero (d := ⟨neg, x, e⟩) h0]
    show (0 : Int) ≤ 8192
    omega
  · have h5 := blen_div_tz h0
    rw [D.pl_pos (d := ⟨neg, x, e⟩) h0]
    show e + (tz x : Int) ≤ 8192
    omega
theorem bl2049 : blen 2049 = 12 := by decide
theorem bl65505 : blen 65505 = 16 := by decide
theorem ev4_t1 : roundS 11 1024 31 32768 (-24) 0 ⟨false, 2049, 0⟩ false = (26624, 1, 0) :=
  roundS_in f16 (by omega) (mayR_small (by omega) (by omega) (by omega)) (by omega) (by omega) 1 26624 26624 26624 1 (by unfold plcS; rw [bl2049]; rfl) (by decide) (by decide) (by decide) (by decide) (by rw [bl2049]; decide)
theorem ev4_t2 : roundS 11 1024 31 32768 (-24) 3 ⟨false, 65505, 0⟩ false = (31744, 5, 0) :=
  roundS_out f16 (by omega) (mayR_small (by omega) (by omega) (by omega)) (by omega) (by omega) 5 31743 31744 31744 (by unfold plcS; rw [bl65505]; rfl) (by decide) (by decide) (by decide) (by decide)
theorem ev4_t3 : roundS 11 1024 31 32768 (-24) 2 ⟨true, 1, -30⟩ false = (32769, 3, 0) :=
  roundS_in f16 (by omega) (mayR_small (by omega) (by omega) (by omega)) (by omega) (by omega) 6 0 1 32769 3 (by unfold plcS; rw [bl1]; rfl) (by decide) (by decide) (by decide) (by decide) (by rw [bl1]; decide)
theorem ev4_t4 : roundS 11 1024 31 32768 (-24) 0 ⟨false, 0, 0⟩ true = (32768, 0, 0) := by
  rw [roundS_zero (by omega) (mayR_small (by omega) (by omega) (by omega)) rfl]
  rfl
theorem ev4_t5 : roundS 11 1024 31 32768 (-24) 5 ⟨false, 1, 0⟩ false = (0, 0, 1) := by
  unfold roundS
  rw [if_pos (by omega)]
theorem aw_one (w : World) : Calls Tryz.prog 88 #[.int .u64 1] w fun e w' => ∃ A k, e = .returned (.slice A k k) ∧ Res w' A k 1 ∧ Below w.heap.size w w' := fof_as 1 (by omega) w
theorem aw_t1 {A : Option Addr} {k c : Nat} {w : World} (h : Arg w A k c 2049) (hs : k ≤ 30000) (hT : Tab w) : Calls Tryz.prog 54 #[.agg #[.int .i64 16, .int .i64 11, .int .i64 5], .int .i64 0, .agg #[.bool false, .slice A k c, .int .i64 0], .bool false] w fun en w' => en = .returned (.tuple #[.int .u64 26624, .int .i64 1, .int .i64 0]) ∧ Below w.heap.size w w' := to_as f16 h hs hT 0 false ev4_t1
theorem aw_t2 {A : Option Addr} {k c : Nat} {w : World} (h : Arg w A k c 65505) (hs : k ≤ 30000) (hT : Tab w) : Calls Tryz.prog 54 #[.agg #[.int .i64 16, .int .i64 11, .int .i64 5], .int .i64 3, .agg #[.bool false, .slice A k c, .int .i64 0], .bool false] w fun en w' => en = .returned (.tuple #[.int .u64 31744, .int .i64 5, .int .i64 0]) ∧ Below w.heap.size w w' := to_as f16 h hs hT 3 false ev4_t2
theorem aw_t3 {A : Option Addr} {k c : Nat} {w : World} (h : Arg w A k c 1) (hs : k ≤ 30000) (hT : Tab w) : Calls Tryz.prog 54 #[.agg #[.int .i64 16, .int .i64 11, .int .i64 5], .int .i64 2, .agg #[.bool true, .slice A k c, .int .i64 (-30)], .bool false] w fun en w' => en = .returned (.tuple #[.int .u64 32769, .int .i64 3, .int .i64 0]) ∧ Below w.heap.size w w' := to_as f16 h hs hT 2 false ev4_t3
theorem aw_t4 {A : Option Addr} {k c : Nat} {w : World} (h : Arg w A k c 0) (hs : k ≤ 30000) (hT : Tab w) : Calls Tryz.prog 54 #[.agg #[.int .i64 16, .int .i64 11, .int .i64 5], .int .i64 0, .agg #[.bool false, .slice A k c, .int .i64 0], .bool true] w fun en w' => en = .returned (.tuple #[.int .u64 32768, .int .i64 0, .int .i64 0]) ∧ Below w.heap.size w w' := to_as f16 h hs hT 0 true ev4_t4
theorem aw_t5 {A : Option Addr} {k c : Nat} {w : World} (h : Arg w A k c 1) (hs : k ≤ 30000) (hT : Tab w) : Calls Tryz.prog 54 #[.agg #[.int .i64 16, .int .i64 11, .int .i64 5], .int .i64 5, .agg #[.bool false, .slice A k c, .int .i64 0], .bool false] w fun en w' => en = .returned (.tuple #[.int .u64 0, .int .i64 0, .int .i64 1]) ∧ Below w.heap.size w w' := to_as f16 h hs hT 5 false ev4_t5
theorem ev4_pl1 : D.pl ⟨true, 2048, 0⟩ = ⟨true, 1, 11⟩ := pl_eval true 11 1 rfl rfl rfl
/-- two variables with numbers, made within an assignment. -/
def Cut2N (w0 : World) (ln : Bool) (lx : Nat) (le : Int) (hn : Bool) (hx : Nat) (he : Int) (err : Int) (s18 s19 s20 : Value) (wx : World) : Prop :=
  ∃ g A n g' A' n', s18 = .pointer (some ⟨g, 0, none⟩) ∧ s19 = .pointer (some ⟨g', 0, none⟩) ∧ s20 = .int .i64 err ∧ DB wx g 48 ln A n n le ∧ DB wx g' 48 hn A' n' n' he ∧ Res wx A n lx ∧ Res wx A' n' hx ∧ w0.heap.size ≤ g ∧ w0.heap.size ≤ g' ∧ Below w0.heap.size w0 wx
theorem ty4_1 : tinyS 1024 (-24) (⟨false, 1, -15⟩ : D).vl.natAbs = true := by
  have h := tiny_top f16 (a := ⟨false, 1, -15⟩) (by decide) (by decide)
  simp only [bl1] at h
  rw [← h]
  decide
theorem ty4_2 : tinyS 1024 (-24) (⟨false, 1, -14⟩ : D).vl.natAbs = false := by
  have h := tiny_top f16 (a := ⟨false, 1, -14⟩) (by decide) (by decide)
  simp only [bl1] at h
  rw [← h]
  decide
theorem aw_by (w : World) : Calls Tryz.prog 95 #[.agg #[.int .i64 16, .int .i64 11, .int .i64 5], .int .i64 1, .bool true] w fun en w' => en = .returned (.int .u64 64511) ∧ Below w.heap.size w w' := beyond_as f16 1 true 64511 (by decide) w
theorem Cut2N.mk {w0 wx : World} {ln : Bool} {lx : Nat} {le : Int} {hn : Bool} {hx : Nat} {he err : Int} {g n g' n' : Nat} {A A' : Option Addr} (h1 : DB wx g 48 ln A n n le) (h2 : DB wx g' 48 hn A' n' n' he) (h3 : Res wx A n lx) (h4 : Res wx A' n' hx)
    (h5 : w0.heap.size ≤ g) (h6 : w0.heap.size ≤ g') (h7 : Below w0.heap.size w0 wx) : Cut2N w0 ln lx le hn hx he err (.pointer (some ⟨g, 0, none⟩)) (.pointer (some ⟨g', 0, none⟩)) (.int .i64 err) wx := ⟨g, A, n, g', A', n', rfl, rfl, rfl, h1, h2, h3, h4, h5, h6, h7⟩
theorem div_place (neg : Bool) (x : Nat) (e : Int) (k : Nat) (he : -40000 ≤ e) : (⟨neg, x, e⟩ : D).vl.natAbs / 2 ^ (e + (k : Int) + 40000).toNat = x / 2 ^ k ∧ ((⟨neg, x, e⟩ : D).vl.natAbs % 2 ^ (e + (k : Int) + 40000).toNat = 0 ↔ x % 2 ^ k = 0) := by
  rw [D.vl_natAbs, show (e + (k : Int) + 40000).toNat = k + (e + 40000).toNat by omega]
  simp only
  have hK := Nat.two_pow_pos (e + 40000).toNat
  generalize (e + 40000).toNat = m at hK ⊢
  rw [Nat.pow_add]
  generalize 2 ^ m = K at hK ⊢
  rw [Nat.mul_div_mul_right _ _ hK, Nat.mul_mod_mul_right]
  refine ⟨rfl, fun h => ?_, fun h => by rw [h, Nat.zero_mul]⟩
  rcases Nat.mul_eq_zero.1 h with h | h
  · exact h
  · omega
end Go.Proofs.YtpachoeignpcbaaGreatDoor
