
/-
  The walk of the statements' awake (layer 4): calls whose answers the document fixes.
-/
import Derived.Test.YtkjbejdeejpdoaaDoorKj
import Derived.Test.YtkjbejdeejpdoaaDoorFs
import Derived.Test.YtkjbejdeejpdoaaDoorFw
import Derived.Test.YtkjbejdeejpdoaaDoorLex
namespace Go.Proofs.YtkjbejdeejpdoaaDoor
open Go.RowKit
set_option linter.unusedVariables false

theorem ev4_of2049 : ofD (2049) = ⟨false, 2049, 0⟩ := ev_of (2049) 0 2049 rfl rfl rfl rfl
theorem ev4_of65505 : ofD (65505) = ⟨false, 65505, 0⟩ := ev_of (65505) 0 65505 rfl rfl rfl rfl
theorem ev4_om2049 : ofD (-2049) = ⟨true, 2049, 0⟩ := ev_of (-2049) 0 2049 rfl rfl rfl rfl
theorem ev4_of2048 : ofD (-2048) = ⟨true, 1, 11⟩ := ev_of (-2048) 11 1 rfl rfl rfl rfl
theorem ev4_of2050 : ofD (-2050) = ⟨true, 1025, 1⟩ := ev_of (-2050) 1 1025 rfl rfl rfl rfl
theorem ev4_one : ofD 1 = ⟨false, 1, 0⟩ := ev_of 1 0 1 rfl rfl rfl rfl
theorem upB_scale (mode : Int) (neg : Bool) (c r U K : Nat) (hK : 0 < K) : upB mode neg c (r * K) (U * K) = upB mode neg c r U := by
  unfold upB
  by_cases hr : r = 0
  · rw [if_pos hr, if_pos (by rw [hr, Nat.zero_mul])]
  · rw [if_neg hr, if_neg (by intro h; rcases Nat.mul_eq_zero.1 h with h | h <;> omega)]
    have e1 : 2 * (r * K) = (2 * r) * K := (Nat.mul_assoc _ _ _).symm
    have l1 : U * K < (2 * r) * K ↔ U < 2 * r := Nat.mul_lt_mul_right hK
    have l2 : (2 * r) * K = U * K ↔ 2 * r = U := Nat.mul_left_inj (by omega)
    have l3 : U * K ≤ (2 * r) * K ↔ U ≤ 2 * r := Nat.mul_le_mul_right_iff hK
    have d1 : decide (U * K < 2 * (r * K) ∨ (2 * (r * K) = U * K ∧ c % 2 = 1)) = decide (U < 2 * r ∨ (2 * r = U ∧ c % 2 = 1)) := decide_eq_decide.2 (by rw [e1, l1, l2])
    have d2 : decide (U * K ≤ 2 * (r * K)) = decide (U ≤ 2 * r) := decide_eq_decide.2 (by rw [e1, l3])
    rw [d1, d2]
theorem rC_eval {B P W M E H : Nat} {low : Int} (hf : Fm B P W M E H low) {mode : Int} {neg : Bool} {x : Nat} {e : Int} (h0 : x ≠ 0) (he : -40000 ≤ e) (k c : Nat) (hp : plcS P low ⟨neg, x, e⟩ = e + (k : Int)) (hc : (e + (k : Int) - low).toNat * M + x / 2 ^ k = c) :
    rC P M low mode neg (⟨neg, x, e⟩ : D).vl.natAbs = c + (if upB mode neg c (x % 2 ^ k) (2 ^ k) then 1 else 0) := by
  have hplc := plc_cell (P := P) (low := low) (a := ⟨neg, x, e⟩) h0 he
  rw [hp] at hplc
  obtain ⟨fs1, fs2⟩ := flC_spec hf (⟨neg, x, e⟩ : D).vl.natAbs
  have hA : (⟨neg, x, e⟩ : D).vl.natAbs = x * 2 ^ (e + 40000).toNat := D.vl_natAbs _
  have hT : (e + (k : Int) + 40000).toNat = k + (e + 40000).toNat := by omega
  obtain ⟨K, hK⟩ : ∃ K, 2 ^ (e + 40000).toNat = K := ⟨_, rfl⟩
  have hK0 : 0 < K := by rw [← hK]; exact Nat.two_pow_pos _
  have hfl : flC P M low (⟨neg, x, e⟩ : D).vl.natAbs = c := by
    unfold flC
    rw [← hplc, hA, hT, Nat.pow_add, Nat.mul_div_mul_right _ _ (Nat.two_pow_pos _), hc]
  unfold rC
  rw [hfl] at fs1 fs2 ⊢
  rw [← hplc, hT, Nat.pow_add, hA, hK, Nat.mul_div_mul_right _ _ hK0] at fs1
  rw [← hplc, hT, Nat.pow_add, hK] at fs2
  rw [fs1, fs2, hA, hK]
  have hdm := Nat.div_add_mod x (2 ^ k)
  rw [show x * K - x / 2 ^ k * (2 ^ k * K) = x % 2 ^ k * K by
    rw [← Nat.mul_assoc, ← Nat.sub_mul, Nat.mul_comm (x / 2 ^ k)]
    exact congrArg (· * K) (show x - 2 ^ k * (x / 2 ^ k) = x % 2 ^ k by omega), upB_scale _ _ _ _ _ _ hK0]
theorem roundS_in {B P W M E H : Nat} {low : Int} (hf : Fm B P W M E H low) {mode : Int} (hmode : 0 ≤ mode ∧ mode ≤ 4) {neg ng : Bool} {x : Nat} {e : Int} (hm : mayR ⟨neg, x, e⟩ = true) (h0 : x ≠ 0) (he : -40000 ≤ e) (k c d v : Nat) (fl : Int) (hp : plcS P low ⟨neg, x, e⟩ = e + (k : Int)) (hc : (e + (k : Int) - low).toNat * M + x / 2 ^ k = c)
    (hd : c + (if upB mode neg c (x % 2 ^ k) (2 ^ k) then 1 else 0) = d) (hlt : d < M * E) (hv : sgn H neg d = v) (hfl : (if decide (x % 2 ^ k ≠ 0) then if decide ((blen x : Int) - 1 + e < low + (P : Int) - 1) then (3 : Int) else 1 else 0) = fl) :
    roundS P M E H low mode ⟨neg, x, e⟩ ng = (v, fl, 0) := by
  have hr := rC_eval hf (mode := mode) h0 he k c hp hc
  rw [hd] at hr
  have hg := flags_flg hf (a := ⟨neg, x, e⟩) h0 he hp
  rw [show decide ((⟨neg, x, e⟩ : D).vl.natAbs % 2 ^ (e + (k : Int) + 40000).toNat ≠ 0) = decide (x % 2 ^ k ≠ 0) by
    rw [D.vl_natAbs, show (e + (k : Int) + 40000).toNat = k + (e + 40000).toNat by omega, Nat.pow_add, Nat.mul_mod_mul_right]
    refine decide_eq_decide.2 ⟨fun h hx => h (by rw [hx, Nat.zero_mul]), fun h hx => h ?_⟩
    rcases Nat.mul_eq_zero.1 hx with h1 | h1
    · exact h1
    · exact absurd h1 (Nat.pos_iff_ne_zero.1 (Nat.two_pow_pos _)), hfl] at hg
  unfold roundS
  rw [if_neg (by omega), hm, if_pos rfl, if_neg h0]
  simp only
  rw [hr, if_pos hlt, hv, ← hg]
theorem roundS_out {B P W M E H : Nat} {low : Int} (hf : Fm B P W M E H low) {mode : Int} (hmode : 0 ≤ mode ∧ mode ≤ 4) {neg ng : Bool} {x : Nat} {e : Int} (hm : mayR ⟨neg, x, e⟩ = true) (h0 : x ≠ 0) (he : -40000 ≤ e) (k c d v : Nat) (hp : plcS P low ⟨neg, x, e⟩ = e + (k : Int)) (hc : (e + (k : Int) - low).toNat * M + x / 2 ^ k = c)
    (hd : c + (if upB mode neg c (x % 2 ^ k) (2 ^ k) then 1 else 0) = d) (hlt : M * E ≤ d) (hv : begS M E H mode neg = v) :
    roundS P M E H low mode ⟨neg, x, e⟩ ng = (v, 5, 0) := by
  have hr := rC_eval hf (mode := mode) h0 he k c hp hc
  rw [hd] at hr
  unfold roundS
  rw [if_neg (by omega), hm, if_pos rfl, if_neg h0]
  simp only
  rw [hr, if_neg (by omega), hv]
theorem mayR_small {neg : Bool} {x : Nat} {e : Int} (hx : x < 18446744073709551616) (h1 : -8000 ≤ e) (h2 : e ≤ 7000) : mayR ⟨neg, x, e⟩ = true := by
  have hb : blen x ≤ 64 := blen_lt_pow (by omega)
  refine mayR_of (may_small hx (by show -8192 ≤ e; omega) (by show e ≤ 8192; omega)) ?_ (by simp only; omega)
  obtain ⟨j1, j2, j3, j4, j5⟩ := pl_bounds (a := ⟨neg, x, e⟩) (may_small hx (by show -8192 ≤ e; omega) (by show e ≤ 8192; omega))
  have hl := D.pl_low (d := ⟨neg, x, e⟩) (m := -8192) (by show -8192 ≤ e; omega) (by omega)
  refine (D.may_iff _).2 ⟨j1, hl, ?_⟩
  by_cases h0 : x = 0
  · rw [D.pl_zero (d := ⟨neg, x, e⟩) h0]
    show (0 : Int) ≤ 8192
    omega
  · have h5 := blen_div_tz h0
    rw [D.pl_pos (d := ⟨neg, x, e⟩) h0]
    show e + (tz x : Int) ≤ 8192
    omega
theorem bl2049 : blen 2049 = 12 := by decide
theorem bl65505 : blen 65505 = 16 := by decide
theorem ev4_t1 : roundS 11 1024 31 32768 (-24) 0 ⟨false, 2049, 0⟩ false = (26624, 1, 0) :=
  roundS_in f16 (by omega) (mayR_small (by omega) (by omega) (by omega)) (by omega) (by omega) 1 26624 26624 26624 1 (by unfold plcS; rw [bl2049]; rfl) (by decide) (by decide) (by decide) (by decide) (by rw [bl2049]; decide)
theorem ev4_t2 : roundS 11 1024 31 32768 (-24) 3 ⟨false, 65505, 0⟩ false = (31744, 5, 0) :=
  roundS_out f16 (by omega) (mayR_small (by omega) (by omega) (by omega)) (by omega) (by omega) 5 31743 31744 31744 (by unfold plcS; rw [bl65505]; rfl) (by decide) (by decide) (by decide) (by decide)
theorem ev4_t3 : roundS 11 1024 31 32768 (-24) 2 ⟨true, 1, -30⟩ false = (32769, 3, 0) :=
  roundS_in f16 (by omega) (mayR_small (by omega) (by omega) (by omega)) (by omega) (by omega) 6 0 1 32769 3 (by unfold plcS; rw [bl1]; rfl) (by decide) (by decide) (by decide) (by decide) (by rw [bl1]; decide)
theorem ev4_t4 : roundS 11 1024 31 32768 (-24) 0 ⟨false, 0, 0⟩ true = (32768, 0, 0) := by
  rw [roundS_zero (by omega) (mayR_small (by omega) (by omega) (by omega)) rfl]
  rfl
theorem ev4_t5 : roundS 11 1024 31 32768 (-24) 5 ⟨false, 1, 0⟩ false = (0, 0, 1) := by
  unfold roundS
  rw [if_pos (by omega)]
theorem aw_one (w : World) : Calls Tryd.prog 28 #[.int .u64 1] w fun e w' => ∃ A k, e = .returned (.slice A k k) ∧ Res w' A k 1 ∧ Below w.heap.size w w' := fof_as 1 (by omega) w
theorem aw_t1 {A : Option Addr} {k c : Nat} {w : World} (h : Arg w A k c 2049) (hs : k ≤ 30000) (hT : Tab w) : Calls Tryd.prog 19 #[.agg #[.int .i64 16, .int .i64 11, .int .i64 5], .int .i64 0, .agg #[.bool false, .slice A k c, .int .i64 0], .bool false] w fun en w' => en = .returned (.tuple #[.int .u64 26624, .int .i64 1, .int .i64 0]) ∧ Below w.heap.size w w' := to_as f16 h hs hT 0 false ev4_t1
theorem aw_t2 {A : Option Addr} {k c : Nat} {w : World} (h : Arg w A k c 65505) (hs : k ≤ 30000) (hT : Tab w) : Calls Tryd.prog 19 #[.agg #[.int .i64 16, .int .i64 11, .int .i64 5], .int .i64 3, .agg #[.bool false, .slice A k c, .int .i64 0], .bool false] w fun en w' => en = .returned (.tuple #[.int .u64 31744, .int .i64 5, .int .i64 0]) ∧ Below w.heap.size w w' := to_as f16 h hs hT 3 false ev4_t2
theorem aw_t3 {A : Option Addr} {k c : Nat} {w : World} (h : Arg w A k c 1) (hs : k ≤ 30000) (hT : Tab w) : Calls Tryd.prog 19 #[.agg #[.int .i64 16, .int .i64 11, .int .i64 5], .int .i64 2, .agg #[.bool true, .slice A k c, .int .i64 (-30)], .bool false] w fun en w' => en = .returned (.tuple #[.int .u64 32769, .int .i64 3, .int .i64 0]) ∧ Below w.heap.size w w' := to_as f16 h hs hT 2 false ev4_t3
theorem aw_t4 {A : Option Addr} {k c : Nat} {w : World} (h : Arg w A k c 0) (hs : k ≤ 30000) (hT : Tab w) : Calls Tryd.prog 19 #[.agg #[.int .i64 16, .int .i64 11, .int .i64 5], .int .i64 0, .agg #[.bool false, .slice A k c, .int .i64 0], .bool true] w fun en w' => en = .returned (.tuple #[.int .u64 32768, .int .i64 0, .int .i64 0]) ∧ Below w.heap.size w w' := to_as f16 h hs hT 0 true ev4_t4
theorem aw_t5 {A : Option Addr} {k c : Nat} {w : World} (h : Arg w A k c 1) (hs : k ≤ 30000) (hT : Tab w) : Calls Tryd.prog 19 #[.agg #[.int .i64 16, .int .i64 11, .int .i64 5], .int .i64 5, .agg #[.bool false, .slice A k c, .int .i64 0], .bool false] w fun en w' => en = .returned (.tuple #[.int .u64 0, .int .i64 0, .int .i64 1]) ∧ Below w.heap.size w w' := to_as f16 h hs hT 5 false ev4_t5
theorem ev4_pl1 : D.pl ⟨true, 2048, 0⟩ = ⟨true, 1, 11⟩ := pl_eval true 11 1 rfl rfl rfl
/-- two variables with numbers, made within an assignment. -/
def Cut2N (w0 : World) (ln : Bool) (lx : Nat) (le : Int) (hn : Bool) (hx : Nat) (he : Int) (err : Int) (s18 s19 s20 : Value) (wx : World) : Prop :=
  ∃ g A n g' A' n', s18 = .pointer (some ⟨g, 0, none⟩) ∧ s19 = .pointer (some ⟨g', 0, none⟩) ∧ s20 = .int .i64 err ∧ DB wx g 25 ln A n n le ∧ DB wx g' 25 hn A' n' n' he ∧ Res wx A n lx ∧ Res wx A' n' hx ∧ w0.heap.size ≤ g ∧ w0.heap.size ≤ g' ∧ Below w0.heap.size w0 wx
theorem ty4_1 : tinyS 1024 (-24) (⟨false, 1, -15⟩ : D).vl.natAbs = true := by
  have h := tiny_top f16 (a := ⟨false, 1, -15⟩) (by decide) (by decide)
  simp only [bl1] at h
  rw [← h]
  decide
theorem ty4_2 : tinyS 1024 (-24) (⟨false, 1, -14⟩ : D).vl.natAbs = false := by
  have h := tiny_top f16 (a := ⟨false, 1, -14⟩) (by decide) (by decide)
  simp only [bl1] at h
  rw [← h]
  decide
theorem aw_ty1 {A : Option Addr} {k c : Nat} {w : World} (h : Arg w A k c 1) (hs : k ≤ 30000) (hT : Tab w) : Calls Tryd.prog 31 #[.agg #[.int .i64 16, .int .i64 11, .int .i64 5], .agg #[.bool false, .slice A k c, .int .i64 (-15)]] w fun en w' => en = .returned (.bool true) ∧ Below w.heap.size w w' :=
  tiny_tells f16 h hs hT true (by rw [mayR_small (by omega) (by omega) (by omega), ty4_1]; rfl)
theorem aw_ty2 {A : Option Addr} {k c : Nat} {w : World} (h : Arg w A k c 1) (hs : k ≤ 30000) (hT : Tab w) : Calls Tryd.prog 31 #[.agg #[.int .i64 16, .int .i64 11, .int .i64 5], .agg #[.bool false, .slice A k c, .int .i64 (-14)]] w fun en w' => en = .returned (.bool false) ∧ Below w.heap.size w w' :=
  tiny_tells f16 h hs hT false (by rw [mayR_small (by omega) (by omega) (by omega), ty4_2]; rfl)
theorem aw_by (w : World) : Calls Tryd.prog 32 #[.agg #[.int .i64 16, .int .i64 11, .int .i64 5], .int .i64 1, .bool true] w fun en w' => en = .returned (.int .u64 64511) ∧ Below w.heap.size w w' := beyond_as f16 1 true 64511 (by decide) w
theorem Cut2N.mk {w0 wx : World} {ln : Bool} {lx : Nat} {le : Int} {hn : Bool} {hx : Nat} {he err : Int} {g n g' n' : Nat} {A A' : Option Addr} (h1 : DB wx g 25 ln A n n le) (h2 : DB wx g' 25 hn A' n' n' he) (h3 : Res wx A n lx) (h4 : Res wx A' n' hx)
    (h5 : w0.heap.size ≤ g) (h6 : w0.heap.size ≤ g') (h7 : Below w0.heap.size w0 wx) : Cut2N w0 ln lx le hn hx he err (.pointer (some ⟨g, 0, none⟩)) (.pointer (some ⟨g', 0, none⟩)) (.int .i64 err) wx := ⟨g, A, n, g', A', n', rfl, rfl, rfl, h1, h2, h3, h4, h5, h6, h7⟩
theorem div_place (neg : Bool) (x : Nat) (e : Int) (k : Nat) (he : -40000 ≤ e) : (⟨neg, x, e⟩ : D).vl.natAbs / 2 ^ (e + (k : Int) + 40000).toNat = x / 2 ^ k ∧ ((⟨neg, x, e⟩ : D).vl.natAbs % 2 ^ (e + (k : Int) + 40000).toNat = 0 ↔ x % 2 ^ k = 0) := by
  rw [D.vl_natAbs, show (e + (k : Int) + 40000).toNat = k + (e + 40000).toNat by omega]
  simp only
  have hK := Nat.two_pow_pos (e + 40000).toNat
  generalize (e + 40000).toNat = m at hK ⊢
  rw [Nat.pow_add]
  generalize 2 ^ m = K at hK ⊢
  rw [Nat.mul_div_mul_right _ _ hK, Nat.mul_mod_mul_right]
  refine ⟨rfl, fun h => ?_, fun h => by rw [h, Nat.zero_mul]⟩
  rcases Nat.mul_eq_zero.1 h with h | h
  · exact h
  · omega
theorem aw_nk {A : Option Addr} {k c : Nat} {w : World} (h : Arg w A k c 2049) (hs : k ≤ 30000) (hT : Tab w) : Calls Tryd.prog 12 #[.agg #[.int .i64 16, .int .i64 11, .int .i64 5], .agg #[.bool true, .slice A k c, .int .i64 0]] w (NkX w true 1 11 true 1025 1 0) := by
  obtain ⟨e1, e2⟩ := div_place true 2049 0 1 (by omega)
  refine nk_num f16 h hs hT (mayR_small (by omega) (by omega) (by omega)) (by omega) (p := 0 + ((1 : Nat) : Int)) (by unfold plcS; rw [bl2049]; rfl) ?_ ?_
  · rw [e1]
    exact pl_eval true 10 1 (by decide) (by decide) (by decide)
  · rw [e1, if_neg (by rw [e2]; decide)]
    exact pl_eval true 0 1025 (by decide) (by decide) (by decide)
set_option maxHeartbeats 4000000 in
set_option maxRecDepth 100000 in
theorem awake4_any {w : World} (hT : Tab w) (hF : Frm w) :
    Calls Tryd.prog 9 #[] w fun e w' => e = .returned (.bool true) ∧ Below w.heap.size w w' := by
  go_enter Tryd.func9, Tryd.ntmps9
  go_wp2_with fail
  refine (of_16 _ hF).mono ?_
  rintro en w1 ⟨rfl, b⟩
  replace hT := hT.on b
  replace hF := hF.on b
  have BW := b
  clear b
  go_upto_region 2 with fail
  obtain ⟨w2, e_w2⟩ : ∃ w', w1.alloc (.cells #[.int .i64 16, .int .i64 11, .int .i64 5] 28) = w' := ⟨_, rfl⟩
  have b : Below w1.heap.size w1 w2 := e_w2 ▸ below_lit _ _
  have hs_w2 : w2.heap.size = w1.heap.size + 1 := e_w2 ▸ size_lit w1 _ rfl
  have zf : FB w2 w1.heap.size 28 (16) (11) (5) := e_w2 ▸ Box.made_at w1 rfl 28 (notU_int _) (notU_int _) (notU_int _)
  rw [e_w2]
  clear e_w2
  replace hT := hT.on b
  replace hF := hF.on b
  replace BW := Below.step BW b
  clear b
  clear hs_w2
  obtain ⟨zfc0, zfc1, zfc2, zff0, zff1, zff2, zfl⟩ := zf.cells
  go_upto_region 2 with fail
  clear zfc0 zfc1 zfc2 zff0 zff1 zff2 zfl
  replace hT := hT.on ((Below.refl _ _).drew : Below w2.heap.size w2 w2.drew)
  replace hF := hF.on ((Below.refl _ _).drew : Below w2.heap.size w2 w2.drew)
  replace zf := zf.on ((Below.refl _ _).drew : Below w2.heap.size w2 w2.drew)
  replace BW := Lib.hid (Below.step BW ((Below.refl _ _).drew : Below w2.heap.size w2 w2.drew))
  go_region_held3 (fun w' => w'.cell? ⟨w1.heap.size, 0, none⟩ = some (.int .i64 16) ∧ w'.cell? ⟨w1.heap.size, 1, none⟩ = some (.int .i64 11) ∧ w'.cell? ⟨w1.heap.size, 2, none⟩ = some (.int .i64 5))
    ((first | exact ⟨zf.cells.1, zf.cells.2.1, zf.cells.2.2.1⟩))
    (first
      | (go_at_call 29
         (with_reducible refine (dof_as (2049) (by omega) (by omega) hT ev4_of2049).mono ?_)
         rintro en w3 ⟨V_r5, v_r5, rfl, r5, b⟩
         replace hT := hT.on b
         replace hF := hF.on b
         replace zf := zf.on b
         replace BW := Lib.hid (Below.step BW.out b)
         have l5 := res_n_le r5 (k := 128) (by decide)
         clear b)
      | (go_at_call 19
         (with_reducible refine (aw_t1 (r5.arg (by omega)) (by omega) hT).mono ?_)
         rintro en w4 ⟨rfl, b⟩
         replace hT := hT.on b
         replace hF := hF.on b
         replace zf := zf.on b
         replace r5 := r5.on b
         replace BW := Lib.hid (Below.step BW.out b)
         clear b))
  replace BW := BW.out
  clear r5
  clear l5
  obtain ⟨zfc0, zfc1, zfc2, zff0, zff1, zff2, zfl⟩ := zf.cells
  go_upto_region 3 with fail
  clear zfc0 zfc1 zfc2 zff0 zff1 zff2 zfl
  replace hT := hT.on ((Below.refl _ _).drew : Below w4.heap.size w4 w4.drew)
  replace hF := hF.on ((Below.refl _ _).drew : Below w4.heap.size w4 w4.drew)
  replace zf := zf.on ((Below.refl _ _).drew : Below w4.heap.size w4 w4.drew)
  replace BW := Lib.hid (Below.step BW ((Below.refl _ _).drew : Below w4.heap.size w4 w4.drew))
  go_region_held3 (fun w' => w'.cell? ⟨w1.heap.size, 0, none⟩ = some (.int .i64 16) ∧ w'.cell? ⟨w1.heap.size, 1, none⟩ = some (.int .i64 11) ∧ w'.cell? ⟨w1.heap.size, 2, none⟩ = some (.int .i64 5))
    ((first | exact ⟨zf.cells.1, zf.cells.2.1, zf.cells.2.2.1⟩))
    (first
      | (go_at_call 29
         (with_reducible refine (dof_as (65505) (by omega) (by omega) hT ev4_of65505).mono ?_)
         rintro en w5 ⟨V_r5, v_r5, rfl, r5, b⟩
         replace hT := hT.on b
         replace hF := hF.on b
         replace zf := zf.on b
         replace BW := Lib.hid (Below.step BW.out b)
         have l5 := res_n_le r5 (k := 128) (by decide)
         clear b)
      | (go_at_call 19
         (with_reducible refine (aw_t2 (r5.arg (by omega)) (by omega) hT).mono ?_)
         rintro en w6 ⟨rfl, b⟩
         replace hT := hT.on b
         replace hF := hF.on b
         replace zf := zf.on b
         replace r5 := r5.on b
         replace BW := Lib.hid (Below.step BW.out b)
         clear b))
  replace BW := BW.out
  clear r5
  clear l5
  obtain ⟨zfc0, zfc1, zfc2, zff0, zff1, zff2, zfl⟩ := zf.cells
  go_upto_region 4 with fail
  clear zfc0 zfc1 zfc2 zff0 zff1 zff2 zfl
  replace hT := hT.on ((Below.refl _ _).drew : Below w6.heap.size w6 w6.drew)
  replace hF := hF.on ((Below.refl _ _).drew : Below w6.heap.size w6 w6.drew)
  replace zf := zf.on ((Below.refl _ _).drew : Below w6.heap.size w6 w6.drew)
  replace BW := Lib.hid (Below.step BW ((Below.refl _ _).drew : Below w6.heap.size w6 w6.drew))
  go_region_held3 (fun w' => w'.cell? ⟨w1.heap.size, 0, none⟩ = some (.int .i64 16) ∧ w'.cell? ⟨w1.heap.size, 1, none⟩ = some (.int .i64 11) ∧ w'.cell? ⟨w1.heap.size, 2, none⟩ = some (.int .i64 5))
    ((first | exact ⟨zf.cells.1, zf.cells.2.1, zf.cells.2.2.1⟩))
    (first
      | (go_at_call 28
         (with_reducible refine (aw_one _).mono ?_)
         rintro en w7 ⟨V_r5, v_r5, rfl, r5, b⟩
         replace hT := hT.on b
         replace hF := hF.on b
         replace zf := zf.on b
         replace BW := Lib.hid (Below.step BW.out b)
         have l5 := r5.le2 (by omega)
         clear b)
      | (go_at_call 19
         (with_reducible refine (aw_t3 (r5.arg (by omega)) (by omega) hT).mono ?_)
         rintro en w8 ⟨rfl, b⟩
         replace hT := hT.on b
         replace hF := hF.on b
         replace zf := zf.on b
         replace r5 := r5.on b
         replace BW := Lib.hid (Below.step BW.out b)
         clear b))
  replace BW := BW.out
  clear r5
  clear l5
  obtain ⟨zfc0, zfc1, zfc2, zff0, zff1, zff2, zfl⟩ := zf.cells
  go_upto_region 5 with fail
  clear zfc0 zfc1 zfc2 zff0 zff1 zff2 zfl
  obtain ⟨zfc0, zfc1, zfc2, zff0, zff1, zff2, zfl⟩ := zf.cells
  go_wp2_with fail
  refine (aw_t4 ((Res.none_ _).arg (by omega)) (by omega) hT).mono ?_
  rintro en w9 ⟨rfl, b⟩
  clear zfc0 zfc1 zfc2 zff0 zff1 zff2 zfl
  replace hT := hT.on b
  replace hF := hF.on b
  replace zf := zf.on b
  replace BW := Below.step BW b
  clear b
  obtain ⟨zfc0, zfc1, zfc2, zff0, zff1, zff2, zfl⟩ := zf.cells
  go_upto_region 6 with fail
  clear zfc0 zfc1 zfc2 zff0 zff1 zff2 zfl
  replace hT := hT.on ((Below.refl _ _).drew : Below w9.heap.size w9 w9.drew)
  replace hF := hF.on ((Below.refl _ _).drew : Below w9.heap.size w9 w9.drew)
  replace zf := zf.on ((Below.refl _ _).drew : Below w9.heap.size w9 w9.drew)
  replace BW := Lib.hid (Below.step BW ((Below.refl _ _).drew : Below w9.heap.size w9 w9.drew))
  go_region_held3 (fun w' => w'.cell? ⟨w1.heap.size, 0, none⟩ = some (.int .i64 16) ∧ w'.cell? ⟨w1.heap.size, 1, none⟩ = some (.int .i64 11) ∧ w'.cell? ⟨w1.heap.size, 2, none⟩ = some (.int .i64 5))
    ((first | exact ⟨zf.cells.1, zf.cells.2.1, zf.cells.2.2.1⟩))
    (first
      | (go_at_call 29
         (with_reducible refine (dof_as (1) (by omega) (by omega) hT ev4_one).mono ?_)
         rintro en w10 ⟨V_r5, v_r5, rfl, r5, b⟩
         replace hT := hT.on b
         replace hF := hF.on b
         replace zf := zf.on b
         replace BW := Lib.hid (Below.step BW.out b)
         have l5 := res_n_le r5 (k := 128) (by decide)
         clear b)
      | (go_at_call 19
         (with_reducible refine (aw_t5 (r5.arg (by omega)) (by omega) hT).mono ?_)
         rintro en w11 ⟨rfl, b⟩
         replace hT := hT.on b
         replace hF := hF.on b
         replace zf := zf.on b
         replace r5 := r5.on b
         replace BW := Lib.hid (Below.step BW.out b)
         clear b))
  replace BW := BW.out
  clear r5
  clear l5
  obtain ⟨zfc0, zfc1, zfc2, zff0, zff1, zff2, zfl⟩ := zf.cells
  go_upto_region 7 with fail
  clear zfc0 zfc1 zfc2 zff0 zff1 zff2 zfl
  go_cut [18, 19, 20] (Cut2N w11 true 1 11 true 1025 1 0)
  case first =>
    have HS : Hid (∀ w', Below w11.heap.size w11 w' → w'.cell? ⟨w1.heap.size, 0, none⟩ = some (.int .i64 16) ∧ w'.cell? ⟨w1.heap.size, 1, none⟩ = some (.int .i64 11) ∧ w'.cell? ⟨w1.heap.size, 2, none⟩ = some (.int .i64 5)) := fun w' hb => by
      have p0 := (zf.on hb).cells
      exact ⟨p0.1, p0.2.1, p0.2.2.1⟩
    have kk : Below w11.heap.size w11 w11.drew := (Below.refl _ _).drew
    have kd : Below w11.heap.size w11 (w11.alloc (dob false none 0 0 0 25)).drew := (below_k (Below.refl _ _) _).drew
    have ke : Below w11.heap.size w11 ((w11.alloc (dob false none 0 0 0 25)).alloc (dob false none 0 0 0 25)).drew := (below_k (below_k (Below.refl _ _) _) _).drew
    have KhT := Lib.hid hT
    clear hT hF zf BW
    go_region_held3 (fun w' => w'.cell? ⟨w1.heap.size, 0, none⟩ = some (.int .i64 16) ∧ w'.cell? ⟨w1.heap.size, 1, none⟩ = some (.int .i64 11) ∧ w'.cell? ⟨w1.heap.size, 2, none⟩ = some (.int .i64 5))
      ((refine HS.out _ ?_; first | (with_reducible assumption) | (with_reducible exact below_k (by assumption) _) | (with_reducible exact below_k (below_k (by assumption) _) _) | ((with_reducible refine below_put3 ?_ ?_ _ _ _) <;> first | (with_reducible assumption) | omega) | ((with_reducible refine below_put3 (below_put3 ?_ ?_ _ _ _) ?_ _ _ _) <;> first | (with_reducible assumption) | omega) | ((with_reducible refine below_k (below_put3 ?_ ?_ _ _ _) _) <;> first | (with_reducible assumption) | omega)))
      (first
      | (go_at_call 29
         refine (dof_as (-2049) (by omega) (by omega) (KhT.out.on (by first | (with_reducible assumption) | (with_reducible exact below_k (by assumption) _) | (with_reducible exact below_k (below_k (by assumption) _) _))) ev4_om2049).mono ?_
         rintro e v6 ⟨V_r5, v_r5, rfl, r5, b6⟩
         have l5 := res_n_le r5 (k := 128) (by decide)
         have r5 := Lib.hid r5
         have kk := Below.step (show Below w11.heap.size w11 _ from (by first | (with_reducible assumption) | (with_reducible exact below_k (by assumption) _) | (with_reducible exact below_k (below_k (by assumption) _) _))) b6
         have hzv6 := kk.size
         first | (have zA := (((DB.made w11 rfl 25 false none 0 0 0).alloc (dob false none 0 0 0 25)).on ((Below.refl _ _).drew)).on b6; have zB := ((DB.made (w11.alloc (dob false none 0 0 0 25)) (by simp) 25 false none 0 0 0 : DB _ (w11.heap.size + 1) _ _ _ _ _ _).on ((Below.refl _ _).drew)).on b6; obtain ⟨zAp0, zAp1, zAp2, zAg0, zAg1, zAg2, zAl⟩ := zA.cells; have zA := Lib.hid zA; obtain ⟨zBp0, zBp1, zBp2, zBg0, zBg1, zBg2, zBl⟩ := zB.cells; have zB := Lib.hid zB) | (have zA := ((DB.made w11 rfl 25 false none 0 0 0).on ((Below.refl _ _).drew)).on b6; obtain ⟨zAp0, zAp1, zAp2, zAg0, zAg1, zAg2, zAl⟩ := zA.cells; have zA := Lib.hid zA) | skip
         clear b6)
      | (go_at_call 12
         refine (aw_nk ((r5.out.on (by first | (with_reducible exact Below.refl _ _) | (with_reducible exact below_lit _ _) | (with_reducible exact below_k (below_lit _ _) _))).arg (by omega)) (by omega) (KhT.out.on (by first | (with_reducible assumption) | (with_reducible exact below_k (by assumption) _) | (with_reducible exact below_k (below_k (by assumption) _) _)))).mono ?_
         rintro e v8 ⟨VA, nA, VB, nB, rfl, r3, r4, b8⟩
         have kk := Below.step (show Below w11.heap.size w11 _ from (by first | (with_reducible assumption) | (with_reducible exact below_k (by assumption) _) | (with_reducible exact below_k (below_k (by assumption) _) _))) b8
         have hzv8 := kk.size
         have r3 := Lib.hid r3
         have r4 := Lib.hid r4
         first | (have zA := zA.out.on b8; obtain ⟨zAp0, zAp1, zAp2, zAg0, zAg1, zAg2, zAl⟩ := zA.cells; have zA := Lib.hid zA; have zB := zB.out.on b8; obtain ⟨zBp0, zBp1, zBp2, zBg0, zBg1, zBg2, zBl⟩ := zB.cells; have zB := Lib.hid zB) | (have zA := ((zA.out.alloc (dob false none 0 0 0 25))).on b8; obtain ⟨zAp0, zAp1, zAp2, zAg0, zAg1, zAg2, zAl⟩ := zA.cells; have zA := Lib.hid zA; have zB := ((DB.made v6 rfl 25 false none 0 0 0)).on b8; obtain ⟨zBp0, zBp1, zBp2, zBg0, zBg1, zBg2, zBl⟩ := zB.cells; have zB := Lib.hid zB) | (have zA := zA.out.on b8; obtain ⟨zAp0, zAp1, zAp2, zAg0, zAg1, zAg2, zAl⟩ := zA.cells; have zA := Lib.hid zA) | (have zA := (((DB.made v6 rfl 25 false none 0 0 0).alloc (dob false none 0 0 0 25))).on b8; have zB := ((DB.made (v6.alloc (dob false none 0 0 0 25)) (by simp) 25 false none 0 0 0 : DB _ (v6.heap.size + 1) _ _ _ _ _ _)).on b8; obtain ⟨zAp0, zAp1, zAp2, zAg0, zAg1, zAg2, zAl⟩ := zA.cells; have zA := Lib.hid zA; obtain ⟨zBp0, zBp1, zBp2, zBg0, zBg1, zBg2, zBl⟩ := zB.cells; have zB := Lib.hid zB) | (have zA := ((DB.made v6 rfl 25 false none 0 0 0)).on b8; obtain ⟨zAp0, zAp1, zAp2, zAg0, zAg1, zAg2, zAl⟩ := zA.cells; have zA := Lib.hid zA) | skip
         clear b8))
    all_goals go_wp2_with fail
    all_goals go_meet
    all_goals (first
        | (with_reducible exact Cut2N.mk ((zA.out.put_d true VA nA nA 11).other (by omega) (.bool true) (.slice VB nB nB) (.int .i64 1)) ((zB.out.other (by omega) (.bool true) (.slice VA nA nA) (.int .i64 11)).put_d true VB nB nB 1) (((zB.out.other (by omega) (.bool true) (.slice VA nA nA) (.int .i64 11)).res (zA.out.res r3.out (.bool true) (.slice VA nA nA) (.int .i64 11)) (.bool true) (.slice VB nB nB) (.int .i64 1))) (((zB.out.other (by omega) (.bool true) (.slice VA nA nA) (.int .i64 11)).res (zA.out.res r4.out (.bool true) (.slice VA nA nA) (.int .i64 11)) (.bool true) (.slice VB nB nB) (.int .i64 1))) ((by first | exact Nat.le_refl _ | omega | (simp; omega))) ((by first | exact Nat.le_refl _ | omega | (simp; omega))) (below_put3 (below_put3 kk (by omega) _ _ _) (by omega) _ _ _))
        | (with_reducible exact Cut2N.mk ((zB.out.put_d true VA nA nA 11).other (by omega) (.bool true) (.slice VB nB nB) (.int .i64 1)) ((zA.out.other (by omega) (.bool true) (.slice VA nA nA) (.int .i64 11)).put_d true VB nB nB 1) (((zA.out.other (by omega) (.bool true) (.slice VA nA nA) (.int .i64 11)).res (zB.out.res r3.out (.bool true) (.slice VA nA nA) (.int .i64 11)) (.bool true) (.slice VB nB nB) (.int .i64 1))) (((zA.out.other (by omega) (.bool true) (.slice VA nA nA) (.int .i64 11)).res (zB.out.res r4.out (.bool true) (.slice VA nA nA) (.int .i64 11)) (.bool true) (.slice VB nB nB) (.int .i64 1))) ((by first | exact Nat.le_refl _ | omega | (simp; omega))) ((by first | exact Nat.le_refl _ | omega | (simp; omega))) (below_put3 (below_put3 kk (by omega) _ _ _) (by omega) _ _ _))
        | (with_reducible exact Cut2N.mk ((zA.out.put_d true VA nA nA 11).alloc _) (DB.made _ (put3_size _ _ _ _ _) 25 true VB nB nB 1) ((zA.out.res r3.out (.bool true) (.slice VA nA nA) (.int .i64 11)).on (below_lit _ _)) ((zA.out.res r4.out (.bool true) (.slice VA nA nA) (.int .i64 11)).on (below_lit _ _)) ((by first | exact Nat.le_refl _ | omega | (simp; omega))) ((by first | exact Nat.le_refl _ | omega | (simp; omega))) (below_k (below_put3 kk (by omega) _ _ _) _))
        | (with_reducible exact Cut2N.mk (DB.made _ (put3_size _ _ _ _ _) 25 true VA nA nA 11) ((zA.out.put_d true VB nB nB 1).alloc _) ((zA.out.res r3.out (.bool true) (.slice VB nB nB) (.int .i64 1)).on (below_lit _ _)) ((zA.out.res r4.out (.bool true) (.slice VB nB nB) (.int .i64 1)).on (below_lit _ _)) ((by first | exact Nat.le_refl _ | omega | (simp; omega))) ((by first | exact Nat.le_refl _ | omega | (simp; omega))) (below_k (below_put3 kk (by omega) _ _ _) _))
        | (with_reducible exact Cut2N.mk ((DB.made v8 rfl 25 true VA nA nA 11).alloc _) (DB.made _ (by simp) 25 true VB nB nB 1) ((r3.out.on (below_lit _ _)).on (below_lit _ _)) ((r4.out.on (below_lit _ _)).on (below_lit _ _)) ((by first | exact Nat.le_refl _ | omega | (simp; omega))) ((by first | exact Nat.le_refl _ | omega | (simp; omega))) (below_k (below_k kk _) _))
        | (with_reducible exact Cut2N.mk (DB.made _ (by simp) 25 true VA nA nA 11) ((DB.made v8 rfl 25 true VB nB nB 1).alloc _) ((r3.out.on (below_lit _ _)).on (below_lit _ _)) ((r4.out.on (below_lit _ _)).on (below_lit _ _)) ((by first | exact Nat.le_refl _ | omega | (simp; omega))) ((by first | exact Nat.le_refl _ | omega | (simp; omega))) (below_k (below_k kk _) _)))
  case rest =>
    obtain ⟨gl, Al, nl, gh, Ah, nh, rfl, rfl, rfl, zl, zh, rl, rh, hg1, hg2, b⟩ := hcut
    clear hg1 hg2
    obtain ⟨w12, rfl⟩ : ∃ w12 : World, w12 = wc := ⟨_, rfl⟩
    replace hT := hT.on b
    replace hF := hF.on b
    replace zf := zf.on b
    replace BW := Below.step BW b
    clear b
    have ll := res_n_le rl (k := 128) (by decide)
    have lh := res_n_le rh (k := 128) (by decide)
    go_wp2_with fail
    try dsimp only [List.append]
    refine region_plan [0, 1, 2, 3, 4, 5, 6, 7, 8, 9, 10, 11, 12, 13, 14, 15, 16, 17, 18, 19, 20, 21, 22, 23, 24, 25, 26, 27, 28, 29, 30, 31, 32, 33, 34, 35, 36, 37, 38, 39, 40, 41, 42, 43, 44, 45, 46, 47, 48, 49, 50, 51, 52, 53, 54, 55, 56, 57, 58, 59, 60, 61, 62, 63, 64, 65, 66, 67, 68, 69, 70, 71, 72, 73, 74, 75, 76, 77, 78, 79, 80, 81, 82, 83, 84, 85, 86, 87] (by kernel_rfl) (by kernel_rfl) (by kernel_rfl) (by kernel_rfl) (by kernel_rfl) ?_
    dsimp only [pick, nth]
    replace hT := hT.on ((Below.refl _ _).drew : Below w12.heap.size w12 w12.drew)
    replace hF := hF.on ((Below.refl _ _).drew : Below w12.heap.size w12 w12.drew)
    replace zf := zf.on ((Below.refl _ _).drew : Below w12.heap.size w12 w12.drew)
    replace zl := zl.on ((Below.refl _ _).drew : Below w12.heap.size w12 w12.drew)
    replace zh := zh.on ((Below.refl _ _).drew : Below w12.heap.size w12 w12.drew)
    replace rl := rl.on ((Below.refl _ _).drew : Below w12.heap.size w12 w12.drew)
    replace rh := rh.on ((Below.refl _ _).drew : Below w12.heap.size w12 w12.drew)
    replace BW := Below.step BW ((Below.refl _ _).drew : Below w12.heap.size w12 w12.drew)
    obtain ⟨w13, e_w13⟩ : ∃ w', w12.drew = w' := ⟨_, rfl⟩
    rw [e_w13] at hT hF zf zl zh rl rh BW ⊢
    clear e_w13
    have lf0 : ∀ s : Wd w13, s.w.cell? ⟨w1.heap.size, 0, none⟩ = some (.int .i64 16) := fun s => (zf.on s.below).cells.1
    have lf1 : ∀ s : Wd w13, s.w.cell? ⟨w1.heap.size, 1, none⟩ = some (.int .i64 11) := fun s => (zf.on s.below).cells.2.1
    have lf2 : ∀ s : Wd w13, s.w.cell? ⟨w1.heap.size, 2, none⟩ = some (.int .i64 5) := fun s => (zf.on s.below).cells.2.2.1
    have lf3 : ∀ s : Wd w13, s.w.cell? ⟨gl, 0, none⟩ = some (.bool true) := fun s => (zl.on s.below).cells.1
    have lf4 : ∀ s : Wd w13, s.w.cell? ⟨gl, 1, none⟩ = some (.slice Al nl nl) := fun s => (zl.on s.below).cells.2.1
    have lf5 : ∀ s : Wd w13, s.w.cell? ⟨gl, 2, none⟩ = some (.int .i64 11) := fun s => (zl.on s.below).cells.2.2.1
    have lf6 : ∀ s : Wd w13, s.w.cell? ⟨gh, 0, none⟩ = some (.bool true) := fun s => (zh.on s.below).cells.1
    have lf7 : ∀ s : Wd w13, s.w.cell? ⟨gh, 1, none⟩ = some (.slice Ah nh nh) := fun s => (zh.on s.below).cells.2.1
    have lf8 : ∀ s : Wd w13, s.w.cell? ⟨gh, 2, none⟩ = some (.int .i64 1) := fun s => (zh.on s.below).cells.2.2.1
    refine lex_plain 57 (by kernel_rfl) ?_
    dsimp only [List.take, List.drop]
    repeat go_big_quiet_step (fail)
    refine wpQuiet_nil ?_
    clear lf0 lf1 lf2 lf3 lf4 lf5 lf6 lf7 lf8
    refine lex_call (by kernel_rfl) (by kernel_rfl) (fun w14 b K hK => ?_)
    replace hT := hT.on b
    replace hF := hF.on b
    replace zf := zf.on b
    replace zl := zl.on b
    replace zh := zh.on b
    replace rl := rl.on b
    replace rh := rh.on b
    replace BW := Below.step BW b
    clear b
    go_simp
    refine (dof_as (-2048) (by omega) (by omega) hT ev4_of2048).mono ?_
    rintro en w15 ⟨V_r6, v_r6, rfl, r6, b⟩
    dsimp only
    refine hK _ _ b ?_
    clear hK K
    replace hT := hT.on b
    replace hF := hF.on b
    replace zf := zf.on b
    replace zl := zl.on b
    replace zh := zh.on b
    replace rl := rl.on b
    replace rh := rh.on b
    replace BW := Below.step BW b
    clear b
    have l6 := res_n_le r6 (k := 128) (by decide)
    refine lex_call (by kernel_rfl) (by kernel_rfl) (fun w16 b K hK => ?_)
    replace hT := hT.on b
    replace hF := hF.on b
    replace zf := zf.on b
    replace zl := zl.on b
    replace zh := zh.on b
    replace rl := rl.on b
    replace rh := rh.on b
    replace r6 := r6.on b
    replace BW := Below.step BW b
    clear b
    go_simp
    refine (dsame_eq (rl.arg (by omega)) (r6.arg (by omega)) (by omega) (by omega) hT (may_small (by decide) (by decide) (by decide)) rfl).mono ?_
    rintro en w17 ⟨rfl, b⟩
    dsimp only
    refine hK _ _ b ?_
    clear hK K
    replace hT := hT.on b
    replace hF := hF.on b
    replace zf := zf.on b
    replace zl := zl.on b
    replace zh := zh.on b
    replace rl := rl.on b
    replace rh := rh.on b
    replace r6 := r6.on b
    replace BW := Below.step BW b
    clear b
    have lf0 : ∀ s : Wd w17, s.w.cell? ⟨w1.heap.size, 0, none⟩ = some (.int .i64 16) := fun s => (zf.on s.below).cells.1
    have lf1 : ∀ s : Wd w17, s.w.cell? ⟨w1.heap.size, 1, none⟩ = some (.int .i64 11) := fun s => (zf.on s.below).cells.2.1
    have lf2 : ∀ s : Wd w17, s.w.cell? ⟨w1.heap.size, 2, none⟩ = some (.int .i64 5) := fun s => (zf.on s.below).cells.2.2.1
    have lf3 : ∀ s : Wd w17, s.w.cell? ⟨gl, 0, none⟩ = some (.bool true) := fun s => (zl.on s.below).cells.1
    have lf4 : ∀ s : Wd w17, s.w.cell? ⟨gl, 1, none⟩ = some (.slice Al nl nl) := fun s => (zl.on s.below).cells.2.1
    have lf5 : ∀ s : Wd w17, s.w.cell? ⟨gl, 2, none⟩ = some (.int .i64 11) := fun s => (zl.on s.below).cells.2.2.1
    have lf6 : ∀ s : Wd w17, s.w.cell? ⟨gh, 0, none⟩ = some (.bool true) := fun s => (zh.on s.below).cells.1
    have lf7 : ∀ s : Wd w17, s.w.cell? ⟨gh, 1, none⟩ = some (.slice Ah nh nh) := fun s => (zh.on s.below).cells.2.1
    have lf8 : ∀ s : Wd w17, s.w.cell? ⟨gh, 2, none⟩ = some (.int .i64 1) := fun s => (zh.on s.below).cells.2.2.1
    refine lex_plain 3 (by kernel_rfl) ?_
    dsimp only [List.take, List.drop]
    repeat go_big_quiet_step (fail)
    refine wpQuiet_nil ?_
    clear lf0 lf1 lf2 lf3 lf4 lf5 lf6 lf7 lf8
    refine lex_call (by kernel_rfl) (by kernel_rfl) (fun w18 b K hK => ?_)
    replace hT := hT.on b
    replace hF := hF.on b
    replace zf := zf.on b
    replace zl := zl.on b
    replace zh := zh.on b
    replace rl := rl.on b
    replace rh := rh.on b
    replace r6 := r6.on b
    replace BW := Below.step BW b
    clear b
    go_simp
    refine (dof_as (-2050) (by omega) (by omega) hT ev4_of2050).mono ?_
    rintro en w19 ⟨V_r7, v_r7, rfl, r7, b⟩
    dsimp only
    refine hK _ _ b ?_
    clear hK K
    replace hT := hT.on b
    replace hF := hF.on b
    replace zf := zf.on b
    replace zl := zl.on b
    replace zh := zh.on b
    replace rl := rl.on b
    replace rh := rh.on b
    replace r6 := r6.on b
    replace BW := Below.step BW b
    clear b
    have l7 := res_n_le r7 (k := 128) (by decide)
    refine lex_call (by kernel_rfl) (by kernel_rfl) (fun w20 b K hK => ?_)
    replace hT := hT.on b
    replace hF := hF.on b
    replace zf := zf.on b
    replace zl := zl.on b
    replace zh := zh.on b
    replace rl := rl.on b
    replace rh := rh.on b
    replace r6 := r6.on b
    replace r7 := r7.on b
    replace BW := Below.step BW b
    clear b
    go_simp
    refine (dsame_eq (rh.arg (by omega)) (r7.arg (by omega)) (by omega) (by omega) hT (may_small (by decide) (by decide) (by decide)) rfl).mono ?_
    rintro en w21 ⟨rfl, b⟩
    dsimp only
    refine hK _ _ b ?_
    clear hK K
    replace hT := hT.on b
    replace hF := hF.on b
    replace zf := zf.on b
    replace zl := zl.on b
    replace zh := zh.on b
    replace rl := rl.on b
    replace rh := rh.on b
    replace r6 := r6.on b
    replace r7 := r7.on b
    replace BW := Below.step BW b
    clear b
    have lf0 : ∀ s : Wd w21, s.w.cell? ⟨w1.heap.size, 0, none⟩ = some (.int .i64 16) := fun s => (zf.on s.below).cells.1
    have lf1 : ∀ s : Wd w21, s.w.cell? ⟨w1.heap.size, 1, none⟩ = some (.int .i64 11) := fun s => (zf.on s.below).cells.2.1
    have lf2 : ∀ s : Wd w21, s.w.cell? ⟨w1.heap.size, 2, none⟩ = some (.int .i64 5) := fun s => (zf.on s.below).cells.2.2.1
    have lf3 : ∀ s : Wd w21, s.w.cell? ⟨gl, 0, none⟩ = some (.bool true) := fun s => (zl.on s.below).cells.1
    have lf4 : ∀ s : Wd w21, s.w.cell? ⟨gl, 1, none⟩ = some (.slice Al nl nl) := fun s => (zl.on s.below).cells.2.1
    have lf5 : ∀ s : Wd w21, s.w.cell? ⟨gl, 2, none⟩ = some (.int .i64 11) := fun s => (zl.on s.below).cells.2.2.1
    have lf6 : ∀ s : Wd w21, s.w.cell? ⟨gh, 0, none⟩ = some (.bool true) := fun s => (zh.on s.below).cells.1
    have lf7 : ∀ s : Wd w21, s.w.cell? ⟨gh, 1, none⟩ = some (.slice Ah nh nh) := fun s => (zh.on s.below).cells.2.1
    have lf8 : ∀ s : Wd w21, s.w.cell? ⟨gh, 2, none⟩ = some (.int .i64 1) := fun s => (zh.on s.below).cells.2.2.1
    refine lex_plain 7 (by kernel_rfl) ?_
    dsimp only [List.take, List.drop]
    repeat go_big_quiet_step (fail)
    refine wpQuiet_nil ?_
    clear lf0 lf1 lf2 lf3 lf4 lf5 lf6 lf7 lf8
    refine lex_call (by kernel_rfl) (by kernel_rfl) (fun w22 b K hK => ?_)
    replace hT := hT.on b
    replace hF := hF.on b
    replace zf := zf.on b
    replace zl := zl.on b
    replace zh := zh.on b
    replace rl := rl.on b
    replace rh := rh.on b
    replace r6 := r6.on b
    replace r7 := r7.on b
    replace BW := Below.step BW b
    clear b
    go_simp
    refine (aw_one _).mono ?_
    rintro en w23 ⟨V_r8, v_r8, rfl, r8, b⟩
    dsimp only
    refine hK _ _ b ?_
    clear hK K
    replace hT := hT.on b
    replace hF := hF.on b
    replace zf := zf.on b
    replace zl := zl.on b
    replace zh := zh.on b
    replace rl := rl.on b
    replace rh := rh.on b
    replace r6 := r6.on b
    replace r7 := r7.on b
    replace BW := Below.step BW b
    clear b
    have l_r8 := r8.le2 (by omega)
    have lf0 : ∀ s : Wd w23, s.w.cell? ⟨w1.heap.size, 0, none⟩ = some (.int .i64 16) := fun s => (zf.on s.below).cells.1
    have lf1 : ∀ s : Wd w23, s.w.cell? ⟨w1.heap.size, 1, none⟩ = some (.int .i64 11) := fun s => (zf.on s.below).cells.2.1
    have lf2 : ∀ s : Wd w23, s.w.cell? ⟨w1.heap.size, 2, none⟩ = some (.int .i64 5) := fun s => (zf.on s.below).cells.2.2.1
    have lf3 : ∀ s : Wd w23, s.w.cell? ⟨gl, 0, none⟩ = some (.bool true) := fun s => (zl.on s.below).cells.1
    have lf4 : ∀ s : Wd w23, s.w.cell? ⟨gl, 1, none⟩ = some (.slice Al nl nl) := fun s => (zl.on s.below).cells.2.1
    have lf5 : ∀ s : Wd w23, s.w.cell? ⟨gl, 2, none⟩ = some (.int .i64 11) := fun s => (zl.on s.below).cells.2.2.1
    have lf6 : ∀ s : Wd w23, s.w.cell? ⟨gh, 0, none⟩ = some (.bool true) := fun s => (zh.on s.below).cells.1
    have lf7 : ∀ s : Wd w23, s.w.cell? ⟨gh, 1, none⟩ = some (.slice Ah nh nh) := fun s => (zh.on s.below).cells.2.1
    have lf8 : ∀ s : Wd w23, s.w.cell? ⟨gh, 2, none⟩ = some (.int .i64 1) := fun s => (zh.on s.below).cells.2.2.1
    refine lex_plain 1 (by kernel_rfl) ?_
    dsimp only [List.take, List.drop]
    repeat go_big_quiet_step (fail)
    refine wpQuiet_nil ?_
    clear lf0 lf1 lf2 lf3 lf4 lf5 lf6 lf7 lf8
    refine lex_call (by kernel_rfl) (by kernel_rfl) (fun w24 b K hK => ?_)
    replace hT := hT.on b
    replace hF := hF.on b
    replace zf := zf.on b
    replace zl := zl.on b
    replace zh := zh.on b
    replace rl := rl.on b
    replace rh := rh.on b
    replace r6 := r6.on b
    replace r7 := r7.on b
    replace r8 := r8.on b
    replace BW := Below.step BW b
    clear b
    go_simp
    refine (aw_ty1 (r8.arg (by omega)) (by omega) hT).mono ?_
    rintro en w25 ⟨rfl, b⟩
    dsimp only
    refine hK _ _ b ?_
    clear hK K
    replace hT := hT.on b
    replace hF := hF.on b
    replace zf := zf.on b
    replace zl := zl.on b
    replace zh := zh.on b
    replace rl := rl.on b
    replace rh := rh.on b
    replace r6 := r6.on b
    replace r7 := r7.on b
    replace r8 := r8.on b
    replace BW := Below.step BW b
    clear b
    have lf0 : ∀ s : Wd w25, s.w.cell? ⟨w1.heap.size, 0, none⟩ = some (.int .i64 16) := fun s => (zf.on s.below).cells.1
    have lf1 : ∀ s : Wd w25, s.w.cell? ⟨w1.heap.size, 1, none⟩ = some (.int .i64 11) := fun s => (zf.on s.below).cells.2.1
    have lf2 : ∀ s : Wd w25, s.w.cell? ⟨w1.heap.size, 2, none⟩ = some (.int .i64 5) := fun s => (zf.on s.below).cells.2.2.1
    have lf3 : ∀ s : Wd w25, s.w.cell? ⟨gl, 0, none⟩ = some (.bool true) := fun s => (zl.on s.below).cells.1
    have lf4 : ∀ s : Wd w25, s.w.cell? ⟨gl, 1, none⟩ = some (.slice Al nl nl) := fun s => (zl.on s.below).cells.2.1
    have lf5 : ∀ s : Wd w25, s.w.cell? ⟨gl, 2, none⟩ = some (.int .i64 11) := fun s => (zl.on s.below).cells.2.2.1
    have lf6 : ∀ s : Wd w25, s.w.cell? ⟨gh, 0, none⟩ = some (.bool true) := fun s => (zh.on s.below).cells.1
    have lf7 : ∀ s : Wd w25, s.w.cell? ⟨gh, 1, none⟩ = some (.slice Ah nh nh) := fun s => (zh.on s.below).cells.2.1
    have lf8 : ∀ s : Wd w25, s.w.cell? ⟨gh, 2, none⟩ = some (.int .i64 1) := fun s => (zh.on s.below).cells.2.2.1
    refine lex_plain 3 (by kernel_rfl) ?_
    dsimp only [List.take, List.drop]
    repeat go_big_quiet_step (fail)
    refine wpQuiet_nil ?_
    clear lf0 lf1 lf2 lf3 lf4 lf5 lf6 lf7 lf8
    refine lex_call (by kernel_rfl) (by kernel_rfl) (fun w26 b K hK => ?_)
    replace hT := hT.on b
    replace hF := hF.on b
    replace zf := zf.on b
    replace zl := zl.on b
    replace zh := zh.on b
    replace rl := rl.on b
    replace rh := rh.on b
    replace r6 := r6.on b
    replace r7 := r7.on b
    replace r8 := r8.on b
    replace BW := Below.step BW b
    clear b
    go_simp
    refine (aw_one _).mono ?_
    rintro en w27 ⟨V_r9, v_r9, rfl, r9, b⟩
    dsimp only
    refine hK _ _ b ?_
    clear hK K
    replace hT := hT.on b
    replace hF := hF.on b
    replace zf := zf.on b
    replace zl := zl.on b
    replace zh := zh.on b
    replace rl := rl.on b
    replace rh := rh.on b
    replace r6 := r6.on b
    replace r7 := r7.on b
    replace r8 := r8.on b
    replace BW := Below.step BW b
    clear b
    have l_r9 := r9.le2 (by omega)
    have lf0 : ∀ s : Wd w27, s.w.cell? ⟨w1.heap.size, 0, none⟩ = some (.int .i64 16) := fun s => (zf.on s.below).cells.1
    have lf1 : ∀ s : Wd w27, s.w.cell? ⟨w1.heap.size, 1, none⟩ = some (.int .i64 11) := fun s => (zf.on s.below).cells.2.1
    have lf2 : ∀ s : Wd w27, s.w.cell? ⟨w1.heap.size, 2, none⟩ = some (.int .i64 5) := fun s => (zf.on s.below).cells.2.2.1
    have lf3 : ∀ s : Wd w27, s.w.cell? ⟨gl, 0, none⟩ = some (.bool true) := fun s => (zl.on s.below).cells.1
    have lf4 : ∀ s : Wd w27, s.w.cell? ⟨gl, 1, none⟩ = some (.slice Al nl nl) := fun s => (zl.on s.below).cells.2.1
    have lf5 : ∀ s : Wd w27, s.w.cell? ⟨gl, 2, none⟩ = some (.int .i64 11) := fun s => (zl.on s.below).cells.2.2.1
    have lf6 : ∀ s : Wd w27, s.w.cell? ⟨gh, 0, none⟩ = some (.bool true) := fun s => (zh.on s.below).cells.1
    have lf7 : ∀ s : Wd w27, s.w.cell? ⟨gh, 1, none⟩ = some (.slice Ah nh nh) := fun s => (zh.on s.below).cells.2.1
    have lf8 : ∀ s : Wd w27, s.w.cell? ⟨gh, 2, none⟩ = some (.int .i64 1) := fun s => (zh.on s.below).cells.2.2.1
    refine lex_plain 1 (by kernel_rfl) ?_
    dsimp only [List.take, List.drop]
    repeat go_big_quiet_step (fail)
    refine wpQuiet_nil ?_
    clear lf0 lf1 lf2 lf3 lf4 lf5 lf6 lf7 lf8
    refine lex_call (by kernel_rfl) (by kernel_rfl) (fun w28 b K hK => ?_)
    replace hT := hT.on b
    replace hF := hF.on b
    replace zf := zf.on b
    replace zl := zl.on b
    replace zh := zh.on b
    replace rl := rl.on b
    replace rh := rh.on b
    replace r6 := r6.on b
    replace r7 := r7.on b
    replace r8 := r8.on b
    replace r9 := r9.on b
    replace BW := Below.step BW b
    clear b
    go_simp
    refine (aw_ty2 (r9.arg (by omega)) (by omega) hT).mono ?_
    rintro en w29 ⟨rfl, b⟩
    dsimp only
    refine hK _ _ b ?_
    clear hK K
    replace hT := hT.on b
    replace hF := hF.on b
    replace zf := zf.on b
    replace zl := zl.on b
    replace zh := zh.on b
    replace rl := rl.on b
    replace rh := rh.on b
    replace r6 := r6.on b
    replace r7 := r7.on b
    replace r8 := r8.on b
    replace r9 := r9.on b
    replace BW := Below.step BW b
    clear b
    have lf0 : ∀ s : Wd w29, s.w.cell? ⟨w1.heap.size, 0, none⟩ = some (.int .i64 16) := fun s => (zf.on s.below).cells.1
    have lf1 : ∀ s : Wd w29, s.w.cell? ⟨w1.heap.size, 1, none⟩ = some (.int .i64 11) := fun s => (zf.on s.below).cells.2.1
    have lf2 : ∀ s : Wd w29, s.w.cell? ⟨w1.heap.size, 2, none⟩ = some (.int .i64 5) := fun s => (zf.on s.below).cells.2.2.1
    have lf3 : ∀ s : Wd w29, s.w.cell? ⟨gl, 0, none⟩ = some (.bool true) := fun s => (zl.on s.below).cells.1
    have lf4 : ∀ s : Wd w29, s.w.cell? ⟨gl, 1, none⟩ = some (.slice Al nl nl) := fun s => (zl.on s.below).cells.2.1
    have lf5 : ∀ s : Wd w29, s.w.cell? ⟨gl, 2, none⟩ = some (.int .i64 11) := fun s => (zl.on s.below).cells.2.2.1
    have lf6 : ∀ s : Wd w29, s.w.cell? ⟨gh, 0, none⟩ = some (.bool true) := fun s => (zh.on s.below).cells.1
    have lf7 : ∀ s : Wd w29, s.w.cell? ⟨gh, 1, none⟩ = some (.slice Ah nh nh) := fun s => (zh.on s.below).cells.2.1
    have lf8 : ∀ s : Wd w29, s.w.cell? ⟨gh, 2, none⟩ = some (.int .i64 1) := fun s => (zh.on s.below).cells.2.2.1
    refine lex_plain 4 (by kernel_rfl) ?_
    dsimp only [List.take, List.drop]
    repeat go_big_quiet_step (fail)
    refine wpQuiet_nil ?_
    clear lf0 lf1 lf2 lf3 lf4 lf5 lf6 lf7 lf8
    refine lex_call (by kernel_rfl) (by kernel_rfl) (fun w30 b K hK => ?_)
    replace hT := hT.on b
    replace hF := hF.on b
    replace zf := zf.on b
    replace zl := zl.on b
    replace zh := zh.on b
    replace rl := rl.on b
    replace rh := rh.on b
    replace r6 := r6.on b
    replace r7 := r7.on b
    replace r8 := r8.on b
    replace r9 := r9.on b
    replace BW := Below.step BW b
    clear b
    go_simp
    refine (aw_by _).mono ?_
    rintro en w31 ⟨rfl, b⟩
    dsimp only
    refine hK _ _ b ?_
    clear hK K
    replace hT := hT.on b
    replace hF := hF.on b
    replace zf := zf.on b
    replace zl := zl.on b
    replace zh := zh.on b
    replace rl := rl.on b
    replace rh := rh.on b
    replace r6 := r6.on b
    replace r7 := r7.on b
    replace r8 := r8.on b
    replace r9 := r9.on b
    replace BW := Below.step BW b
    clear b
    have lf0 : ∀ s : Wd w31, s.w.cell? ⟨w1.heap.size, 0, none⟩ = some (.int .i64 16) := fun s => (zf.on s.below).cells.1
    have lf1 : ∀ s : Wd w31, s.w.cell? ⟨w1.heap.size, 1, none⟩ = some (.int .i64 11) := fun s => (zf.on s.below).cells.2.1
    have lf2 : ∀ s : Wd w31, s.w.cell? ⟨w1.heap.size, 2, none⟩ = some (.int .i64 5) := fun s => (zf.on s.below).cells.2.2.1
    have lf3 : ∀ s : Wd w31, s.w.cell? ⟨gl, 0, none⟩ = some (.bool true) := fun s => (zl.on s.below).cells.1
    have lf4 : ∀ s : Wd w31, s.w.cell? ⟨gl, 1, none⟩ = some (.slice Al nl nl) := fun s => (zl.on s.below).cells.2.1
    have lf5 : ∀ s : Wd w31, s.w.cell? ⟨gl, 2, none⟩ = some (.int .i64 11) := fun s => (zl.on s.below).cells.2.2.1
    have lf6 : ∀ s : Wd w31, s.w.cell? ⟨gh, 0, none⟩ = some (.bool true) := fun s => (zh.on s.below).cells.1
    have lf7 : ∀ s : Wd w31, s.w.cell? ⟨gh, 1, none⟩ = some (.slice Ah nh nh) := fun s => (zh.on s.below).cells.2.1
    have lf8 : ∀ s : Wd w31, s.w.cell? ⟨gh, 2, none⟩ = some (.int .i64 1) := fun s => (zh.on s.below).cells.2.2.1
    refine lex_plain 3 (by kernel_rfl) ?_
    dsimp only [List.take, List.drop]
    repeat go_big_quiet_step (fail)
    refine wpQuiet_nil ?_
    clear lf0 lf1 lf2 lf3 lf4 lf5 lf6 lf7 lf8
    refine lex_nil (fun w32 b => ?_)
    replace hT := hT.on b
    replace hF := hF.on b
    replace zf := zf.on b
    replace zl := zl.on b
    replace zh := zh.on b
    replace rl := rl.on b
    replace rh := rh.on b
    replace r6 := r6.on b
    replace r7 := r7.on b
    replace r8 := r8.on b
    replace r9 := r9.on b
    replace BW := Below.step BW b
    clear b
    dsimp only [NoPanic]
    go_wp2_with fail
    go_ret
    exact ⟨rfl, BW⟩
end Go.Proofs.YtkjbejdeejpdoaaDoor
