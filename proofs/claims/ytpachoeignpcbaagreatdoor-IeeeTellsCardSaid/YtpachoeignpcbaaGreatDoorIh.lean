
/-
  What the laws of layer 5 make of sums and products: turned about, by 1, with a zero, less itself: nothing of a program.
-/
import Derived.Test.YtpachoeignpcbaaGreatDoorIf
namespace Go.Proofs.YtpachoeignpcbaaGreatDoor
open Go.RowKit
set_option linter.unusedVariables false

/-- bits of a format, and no "no number". -/
def numB (M E H b : Nat) : Bool := decide (b < 2 * H) && !nanB M E b
theorem numB_iff {M E H b : Nat} : numB M E H b = true ↔ b < 2 * H ∧ nanB M E b = false := by
  unfold numB; simp
theorem bneB_comm (x y : Bool) : (x != y) = (y != x) := by cases x <;> cases y <;> rfl
theorem D.add_comm (a b : D) : a.add b = b.add a := by
  unfold D.add
  rw [Int.min_comm, Int.add_comm]
theorem D.mul_comm (a b : D) : a.mul b = b.mul a := by
  unfold D.mul
  rw [Nat.mul_comm, Int.add_comm, bneB_comm a.neg]
theorem ntS_comm (mode : Int) (x y : Bool) : ntS mode x y = ntS mode y x := by
  unfold ntS
  by_cases h : x = y
  · subst h; rfl
  · rw [if_neg h, if_neg (fun e => h e.symm)]
section
variable {B P W M E H : Nat} {low : Int}
theorem sumT_comm (P M E H : Nat) (low : Int) (mode : Int) (x y : Tm) : sumT P M E H low mode x y = sumT P M E H low mode y x := by
  obtain ⟨xn, xi, xd⟩ := x
  obtain ⟨yn, yi, yd⟩ := y
  unfold sumT bitsS
  simp only
  rw [ntS_comm mode xn yn, D.add_comm xd yd]
  cases xi <;> cases yi <;> cases xn <;> cases yn <;> simp
theorem prodT_comm (x y : Tm) : prodT x y = prodT y x := by
  unfold prodT
  rw [D.mul_comm, Bool.or_comm, bneB_comm x.neg]
theorem vainB_comm (M E a b : Nat) : vainB M E a b = vainB M E b a := by
  unfold vainB
  rw [Bool.or_comm, Bool.and_comm (zerB M E a), Bool.and_comm (infB M E a)]
theorem nonS_two (M E H a b : Nat) (ha : nanB M E a = false) (hb : nanB M E b = false) : (nonS M E H [a, b]).2.2 = false := by
  unfold nonS nonStep
  simp [ha, hb]
theorem wrongS_two (H : Nat) (mode : Int) (a b : Nat) : wrongS H mode [a, b] = wrongS H mode [b, a] := by
  unfold wrongS
  simp only [List.all_cons, List.all_nil, Bool.and_true]
  rw [Bool.and_comm]
theorem addI_comm (P M E H : Nat) (low : Int) (mode : Int) (a b : Nat) (ha : nanB M E a = false) (hb : nanB M E b = false) : addI P M E H low mode a b = addI P M E H low mode b a := by
  unfold addI
  rw [wrongS_two H mode a b, nonS_two M E H a b ha hb, nonS_two M E H b a hb ha, sumT_comm]
  rfl
theorem mulI_comm (P M E H : Nat) (low : Int) (mode : Int) (a b : Nat) (ha : nanB M E a = false) (hb : nanB M E b = false) : mulI P M E H low mode a b = mulI P M E H low mode b a := by
  unfold mulI
  rw [wrongS_two H mode a b, nonS_two M E H a b ha hb, nonS_two M E H b a hb ha, vainB_comm, prodT_comm]
  rfl
/-- a number of one sign and the other. -/
theorem sgn_at (H : Nat) (neg : Bool) (c : Nat) : sgn H neg c = if neg then H + c else c := rfl
theorem sgn_cls (hf : Fm B P W M E H low) (neg : Bool) (c : Nat) (hc : c < H) : clsS M E (sgn H neg c) = clsS M E c ∧ ngB H (sgn H neg c) = neg ∧ sgn H neg c < 2 * H := by
  obtain ⟨k1, k2, k3, k4, k5, k6⟩ := sgn_parts hf neg c hc
  obtain ⟨f1, f2, f3, f4, f5⟩ := fields hf c hc
  refine ⟨?_, k3, k4⟩
  unfold clsS
  rw [k1, k2, f1]
/-- a zero. -/
theorem zero_is (hf : Fm B P W M E H low) (neg : Bool) : clsS M E (sgn H neg 0) = 0 ∧ ngB H (sgn H neg 0) = neg ∧ sgn H neg 0 < 2 * H ∧ (valS M E H low (sgn H neg 0)).1 = ⟨false, 0, 0⟩ := by
  have hb := hf.bd
  obtain ⟨h1, h2, h3⟩ := sgn_cls hf neg 0 (by omega)
  have h4 : clsS M E 0 = 0 := by
    unfold clsS
    rw [if_pos (by simp), if_pos (by simp)]
  refine ⟨by rw [h1, h4], h2, h3, ?_⟩
  rw [val_fin hf h3 (by rw [h1, h4]; omega)]
  refine D.pl_zero ?_
  have h5 := (sgn_parts hf neg 0 (by omega)).2.2.2.2.1
  show valN M E (sgn H neg 0) = 0
  rw [h5]
  unfold valN
  simp
theorem flags_of_cls {M E b : Nat} {q : Int} (h : clsS M E b = q) : nanB M E b = decide (4 ≤ q) ∧ sigB M E b = decide (q = 5) ∧ infB M E b = decide (q = 3) ∧ zerB M E b = decide (q = 0) := by
  unfold nanB sigB infB zerB
  rw [h]
  exact ⟨rfl, rfl, rfl, rfl⟩
/-- 1. -/
def oneS (P M : Nat) (low : Int) : Nat := (2 - (P : Int) - low).toNat * M
theorem one_is (hf : Fm B P W M E H low) : clsS M E (oneS P M low) = 2 ∧ ngB H (oneS P M low) = false ∧ oneS P M low < 2 * H ∧ (valS M E H low (oneS P M low)).1 = ⟨false, 1, 0⟩ ∧ putS P M E H low ⟨false, 1, 0⟩ = (oneS P M low, 0) := by
  have key : clsS M E (oneS P M low) = 2 ∧ ngB H (oneS P M low) = false ∧ oneS P M low < 2 * H ∧ valN M E (oneS P M low) = 2 ^ (P - 1) * 1 ∧ valP M E low (oneS P M low) + ((P - 1 : Nat) : Int) = 0 := by
    rcases hf with ⟨rfl, rfl, rfl, rfl, rfl, rfl, rfl⟩ | ⟨rfl, rfl, rfl, rfl, rfl, rfl, rfl⟩ | ⟨rfl, rfl, rfl, rfl, rfl, rfl, rfl⟩ <;> decide
  obtain ⟨h1, h2, h3, h4, h5⟩ := key
  have h6 : D.pl ⟨ngB H (oneS P M low), valN M E (oneS P M low), valP M E low (oneS P M low)⟩ = ⟨false, 1, 0⟩ := by
    rw [h2]
    exact pl_eval false (P - 1) 1 h4 rfl (by omega)
  have hx : oneS P M low / M % (E + 1) ≠ E := (cls_fin hf _).1 (by rw [h1]; omega)
  refine ⟨h1, h2, h3, ?_, ?_⟩
  · rw [val_fin hf h3 (by rw [h1]; omega)]
    exact h6
  · have h7 := put_val hf (oneS P M low) h3 hx (by rw [h4, Nat.mul_one]; exact Nat.ne_of_gt (Nat.two_pow_pos _))
    have h8 : decide (oneS P M low / H % 2 = 1) = ngB H (oneS P M low) := rfl
    rw [h8, h6] at h7
    exact h7
theorem D.mul_one {d : D} (h : d.plain) : d.mul ⟨false, 1, 0⟩ = d := by
  have h1 : d.mul ⟨false, 1, 0⟩ = d.pl := by
    unfold D.mul
    simp
  rw [h1, pl_plain' h]
theorem D.add_zero {d : D} (h : d.plain) (he : -40000 ≤ d.e) : d.add ⟨false, 0, 0⟩ = d :=
  (D.add_of he (by show (-40000 : Int) ≤ 0; omega) he h (by rw [D.vl_zero.2 (show (⟨false, 0, 0⟩ : D).x = 0 from rfl), Int.add_zero])).symm
theorem mul_plain_e (hf : Fm B P W M E H low) (a b : Nat) : (D.mul (valS M E H low a).1 (valS M E H low b).1).plain ∧ -40000 ≤ (D.mul (valS M E H low a).1 (valS M E H low b).1).e :=
  ⟨D.mul_plain _ _, by have := (val_mul hf a b).2.2.2.2.2; omega⟩
theorem tm_one (hf : Fm B P W M E H low) (a : Nat) : prodT (tmS M E H low a) (tmS M E H low (oneS P M low)) = tmS M E H low a := by
  obtain ⟨h1, h2, h3, h4, h5⟩ := one_is hf
  obtain ⟨k1, k2, k3, k4⟩ := flags_of_cls h1
  unfold prodT tmS
  simp only
  rw [h2, k3, h4, D.mul_one (val_in hf a).2.2.2.1]
  simp
theorem vain_one (hf : Fm B P W M E H low) (a : Nat) : vainB M E a (oneS P M low) = false := by
  obtain ⟨h1, h2, h3, h4, h5⟩ := one_is hf
  obtain ⟨k1, k2, k3, k4⟩ := flags_of_cls h1
  unfold vainB
  rw [k3, k4]
  simp
theorem nonS_skip (M E H : Nat) (a b c : Nat) (hc : nanB M E c = false) (hs : sigB M E c = false) : nonS M E H [a, c, b] = nonS M E H [a, b] ∧ nonS M E H [a, b, c] = nonS M E H [a, b] := by
  unfold nonS nonStep
  simp [hc, hs]
theorem wrongS_skip (H : Nat) (mode : Int) (a b c : Nat) (hc : c < 2 * H) : wrongS H mode [a, c, b] = wrongS H mode [a, b] ∧ wrongS H mode [a, b, c] = wrongS H mode [a, b] := by
  unfold wrongS
  simp [hc]
/-- FMA BY 1 IS ADD. -/
theorem fma_one (hf : Fm B P W M E H low) (mode : Int) (a b : Nat) : fmaI P M E H low mode a (oneS P M low) b = addI P M E H low mode a b := by
  obtain ⟨h1, h2, h3, h4, h5⟩ := one_is hf
  obtain ⟨k1, k2, k3, k4⟩ := flags_of_cls h1
  unfold fmaI addI
  rw [(wrongS_skip H mode a b _ h3).1, (nonS_skip M E H a b _ (by rw [k1]; rfl) (by rw [k2]; rfl)).1, vain_one hf, tm_one hf]
  simp
theorem vain_num {M E a b : Nat} (h : vainB M E a b = true) : nanB M E a = false ∧ nanB M E b = false := by
  unfold vainB infB zerB at h
  unfold nanB
  simp only [Bool.or_eq_true, Bool.and_eq_true, decide_eq_true_eq] at h
  simp only [decide_eq_false_iff_not]
  omega
/-- FMA WITH A ZERO OF THE PRODUCT'S SIGN IS MUL. -/
theorem fma_zero (hf : Fm B P W M E H low) (mode : Int) (a b : Nat) : fmaI P M E H low mode a b (sgn H (ngB H a != ngB H b) 0) = mulI P M E H low mode a b := by
  obtain ⟨h1, h2, h3, h4⟩ := zero_is hf (ngB H a != ngB H b)
  obtain ⟨k1, k2, k3, k4⟩ := flags_of_cls h1
  unfold fmaI mulI
  rw [(wrongS_skip H mode a b _ h3).2, (nonS_skip M E H a b _ (by rw [k1]; rfl) (by rw [k2]; rfl)).2]
  by_cases hw : wrongS H mode [a, b] ≠ 0
  · rw [if_pos hw, if_pos hw]
  · rw [if_neg hw, if_neg hw]
    obtain ⟨vb, hv⟩ : ∃ v, vainB M E a b = v := ⟨_, rfl⟩
    rw [hv]
    cases vb
    · by_cases hn : (nonS M E H [a, b]).2.2 = true
      · rw [if_pos hn, if_pos hn]
        simp
      · rw [if_neg hn, if_neg hn, if_neg (by decide), if_neg (by decide)]
        have e : tmS M E H low (sgn H (ngB H a != ngB H b) 0) = ⟨ngB H a != ngB H b, false, ⟨false, 0, 0⟩⟩ := by
          unfold tmS
          rw [h2, k3, h4]
          rfl
        rw [e]
        unfold sumT
        simp only [Bool.and_false, Bool.false_and, Bool.false_eq_true, if_false]
        split
        · rfl
        · rename_i hi
          obtain ⟨m1, m2⟩ := mul_plain_e hf a b
          have hi' : (prodT (tmS M E H low a) (tmS M E H low b)).inf = false := by simpa using hi
          have hd : (prodT (tmS M E H low a) (tmS M E H low b)).d = D.mul (valS M E H low a).1 (valS M E H low b).1 := rfl
          have hg : (prodT (tmS M E H low a) (tmS M E H low b)).neg = (ngB H a != ngB H b) := rfl
          unfold bitsS
          rw [hi', hd, hg, D.add_zero m1 m2]
          unfold ntS
          rw [if_pos rfl]
    · obtain ⟨v1, v2⟩ := vain_num hv
      rw [nonS_two M E H a b v1 v2]
      simp
/-- bits by sign and size, of a number. -/
theorem inf_bits (hf : Fm B P W M E H low) {a : Nat} (ha : a < 2 * H) (hc : clsS M E a = 3) : sgn H (ngB H a) (M * E) = a := by
  obtain ⟨b1, b2, b3, b4, b5, b6, b7, b8, b9, b10, b11, b12, b13, b14, b15⟩ := hf.bd
  obtain ⟨s1, s2, s3, s4⟩ := bits_sgn hf a ha
  have h1 : a / M % (E + 1) = E := by
    refine Classical.byContradiction fun h => ?_
    have := (cls_fin hf a).2 h
    omega
  have h2 : a % M = 0 := by
    unfold clsS at hc
    rw [if_neg (by omega), if_neg (by omega)] at hc
    split at hc
    · assumption
    · split at hc <;> omega
  obtain ⟨f1, f2, f3, f4, f5⟩ := fields hf (a % H) s2
  have h3 : a % H = M * E := by
    rw [f3, s4, h2, ← f1, s3, h1, Nat.mul_comm]
    rfl
  rw [← h3]
  exact s1.symm
theorem keeps_bits (hf : Fm B P W M E H low) {a : Nat} (ha : a < 2 * H) (hn : nanB M E a = false) {mode : Int} (hm : 0 ≤ mode ∧ mode ≤ 4) : bitsS P M E H low mode (tmS M E H low a) = (a, 0, 0) := by
  unfold bitsS tmS
  simp only
  by_cases hi : clsS M E a = 3
  · rw [(flags_of_cls hi).2.2.1]
    simp only [decide_true, if_true]
    rw [inf_bits hf ha hi]
  · have hc : clsS M E a ≤ 2 := by
      unfold nanB at hn
      simp only [decide_eq_false_iff_not] at hn
      omega
    have h1 : infB M E a = false := by unfold infB; exact decide_eq_false hi
    rw [h1, val_fin hf ha hc]
    exact round_keeps hf a ha ((cls_fin hf a).1 hc) hm
theorem sgn_turn (hf : Fm B P W M E H low) {a : Nat} (ha : a < 2 * H) : trnS H a < 2 * H ∧ clsS M E (trnS H a) = clsS M E a ∧ ngB H (trnS H a) = !ngB H a ∧ valN M E (trnS H a) = valN M E a ∧ valP M E low (trnS H a) = valP M E low a := by
  obtain ⟨s1, s2, s3, s4⟩ := bits_sgn hf a ha
  obtain ⟨k1, k2, k3⟩ := sgn_cls hf (!ngB H a) (a % H) s2
  have k4 := (sgn_cls hf (ngB H a) (a % H) s2).1
  have e : sgn H (ngB H a) (a % H) = a := s1.symm
  rw [e] at k4
  obtain ⟨p1, p2, p3, p4, p5, p6⟩ := sgn_parts hf (!ngB H a) (a % H) s2
  obtain ⟨q1, q2, q3, q4, q5, q6⟩ := sgn_parts hf (ngB H a) (a % H) s2
  rw [e] at q5 q6
  exact ⟨k3, by unfold trnS; rw [k1, k4], k2, by unfold trnS; rw [p5, q5], by unfold trnS; rw [p6, q6]⟩
/-- the number of bits turned. -/
theorem val_turn (hf : Fm B P W M E H low) {a : Nat} (ha : a < 2 * H) : (valS M E H low (trnS H a)).1.vl = -(valS M E H low a).1.vl := by
  obtain ⟨h1, h2, h3, h4, h5⟩ := sgn_turn hf ha
  by_cases hc : clsS M E a ≤ 2
  · obtain ⟨p1, p2⟩ := valP_bd hf a
    rw [val_fin hf h1 (by rw [h2]; exact hc), val_fin hf ha hc, h3, h4, h5, D.pl_vl (by show -40000 ≤ valP M E low a; omega), D.pl_vl (by show -40000 ≤ valP M E low a; omega)]
    exact D.turn_vl ⟨ngB H a, valN M E a, valP M E low a⟩
  · rw [val_non hf hc, val_non hf (by rw [h2]; exact hc), D.vl_zero.2 (show (⟨false, 0, 0⟩ : D).x = 0 from rfl)]
    rfl
theorem addI_num (P M E H : Nat) (low : Int) {mode : Int} (hm : 0 ≤ mode ∧ mode ≤ 4) {a b : Nat} (ha : a < 2 * H) (hb : b < 2 * H) (na : nanB M E a = false) (nb : nanB M E b = false) : addI P M E H low mode a b = sumT P M E H low mode (tmS M E H low a) (tmS M E H low b) := by
  unfold addI
  rw [wrongS_is hm (by intro x hx; simp only [List.mem_cons, List.not_mem_nil, or_false] at hx; rcases hx with rfl | rfl <;> assumption), nonS_two M E H a b na nb]
  rfl
theorem mulI_num (P M E H : Nat) (low : Int) {mode : Int} (hm : 0 ≤ mode ∧ mode ≤ 4) {a b : Nat} (ha : a < 2 * H) (hb : b < 2 * H) (na : nanB M E a = false) (nb : nanB M E b = false) : mulI P M E H low mode a b = if vainB M E a b then (M * E + M / 2, 16, 0) else bitsS P M E H low mode (prodT (tmS M E H low a) (tmS M E H low b)) := by
  unfold mulI
  rw [wrongS_is hm (by intro x hx; simp only [List.mem_cons, List.not_mem_nil, or_false] at hx; rcases hx with rfl | rfl <;> assumption), nonS_two M E H a b na nb]
  rfl
/-- By 1 a number is itself; with the zero of its sign, too; less itself a finite one is 0. -/
theorem unit_mul (hf : Fm B P W M E H low) {a : Nat} (ha : a < 2 * H) (hn : nanB M E a = false) {mode : Int} (hm : 0 ≤ mode ∧ mode ≤ 4) : mulI P M E H low mode a (oneS P M low) = (a, 0, 0) := by
  obtain ⟨h1, h2, h3, h4, h5⟩ := one_is hf
  obtain ⟨k1, k2, k3, k4⟩ := flags_of_cls h1
  rw [mulI_num P M E H low hm ha h3 hn (by rw [k1]; rfl), vain_one hf, tm_one hf, if_neg (by decide), keeps_bits hf ha hn hm]
theorem unit_add (hf : Fm B P W M E H low) {a : Nat} (ha : a < 2 * H) (hn : nanB M E a = false) {mode : Int} (hm : 0 ≤ mode ∧ mode ≤ 4) : addI P M E H low mode a (sgn H (ngB H a) 0) = (a, 0, 0) := by
  obtain ⟨h1, h2, h3, h4⟩ := zero_is hf (ngB H a)
  obtain ⟨k1, k2, k3, k4⟩ := flags_of_cls h1
  have hk := keeps_bits hf ha hn hm
  obtain ⟨v1, v2, v3, v4, v5⟩ := val_in hf a
  rw [addI_num P M E H low hm ha h3 hn (by rw [k1]; rfl)]
  have e : tmS M E H low (sgn H (ngB H a) 0) = ⟨ngB H a, false, ⟨false, 0, 0⟩⟩ := by
    unfold tmS
    rw [h2, k3, h4]
    rfl
  rw [e]
  unfold sumT
  simp only [Bool.and_false, Bool.false_and, Bool.false_eq_true, if_false]
  split
  · exact hk
  · rename_i hi
    have hi' : infB M E a = false := by
      have : (tmS M E H low a).inf = false := by simpa using hi
      exact this
    unfold bitsS tmS at hk ⊢
    simp only at hk ⊢
    rw [hi'] at hk
    simp only [Bool.false_eq_true, if_false] at hk
    rw [D.add_zero v4 (by omega)]
    unfold ntS
    rw [if_pos rfl]
    simpa using hk
theorem D.add_turned {a b : D} (ha : -40000 ≤ a.e) (hb : -40000 ≤ b.e) (h : b.vl = -a.vl) : a.add b = ⟨false, 0, 0⟩ := by
  have h1 := D.add_vl ha hb
  rw [h, Int.add_right_neg] at h1
  have h2 := D.vl_zero.1 h1
  rcases D.add_plain a b with ⟨p1, p2, p3⟩ | p
  · generalize a.add b = c at *
    obtain ⟨n, x, e⟩ := c
    simp only at p1 p2 p3
    rw [p1, p2, p3]
  · omega
theorem unit_sub (hf : Fm B P W M E H low) {a : Nat} (ha : a < 2 * H) (hn : nanB M E a = false) {mode : Int} (hm : 0 ≤ mode ∧ mode ≤ 4) : subI P M E H low mode a a = if clsS M E a = 3 then (M * E + M / 2, 16, 0) else (sgn H (decide (mode = 2)) 0, 0, 0) := by
  obtain ⟨h1, h2, h3, h4, h5⟩ := sgn_turn hf ha
  have h6 := val_turn hf ha
  obtain ⟨v1, v2, v3, v4, v5⟩ := val_in hf a
  obtain ⟨u1, u2, u3, u4, u5⟩ := val_in hf (trnS H a)
  have hn2 : nanB M E (trnS H a) = false := by unfold nanB at hn ⊢; rw [h2]; exact hn
  have hi2 : infB M E (trnS H a) = infB M E a := by unfold infB; rw [h2]
  unfold subI
  rw [hn, decide_eq_true ha]
  simp only [Bool.not_false, Bool.and_self, if_true]
  rw [addI_num P M E H low hm ha h1 hn hn2]
  unfold sumT tmS
  simp only
  rw [hi2, h3]
  by_cases hi : clsS M E a = 3
  · rw [(flags_of_cls hi).2.2.1, if_pos hi]
    cases ngB H a <;> rfl
  · have hi' : infB M E a = false := by unfold infB; exact decide_eq_false hi
    rw [hi', if_neg hi]
    simp only [Bool.and_false, Bool.false_and, Bool.false_eq_true, if_false]
    unfold bitsS ntS
    simp only [Bool.false_eq_true, if_false]
    rw [D.add_turned (by omega) (by omega) h6, if_neg (by cases ngB H a <;> decide)]
    exact roundS_zero hm (by unfold mayR; rw [show D.may ⟨false, 0, 0⟩ = true from (D.may_iff _).2 ⟨by show blen 0 ≤ 4096; rw [blen_zero]; omega, by show (-8192 : Int) ≤ 0; omega, by show (0 : Int) ≤ 8192; omega⟩]; rfl) rfl _
end
end Go.Proofs.YtpachoeignpcbaaGreatDoor
