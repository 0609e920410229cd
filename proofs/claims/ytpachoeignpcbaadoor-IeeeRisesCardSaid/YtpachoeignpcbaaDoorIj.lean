
/-
  What the laws IeeeAgain and IeeeExact make of what is told: which classes, which flags, and when it is exact: nothing of a program.
-/
import Derived.Test.YtpachoeignpcbaaDoorIh
namespace Go.Proofs.YtpachoeignpcbaaDoor
open Go.RowKit
set_option linter.unusedVariables false

section
variable {B P W M E H : Nat} {low : Int}
theorem inf_is (hf : Fm B P W M E H low) (neg : Bool) : clsS M E (sgn H neg (M * E)) = 3 ∧ sgn H neg (M * E) < 2 * H ∧ ngB H (sgn H neg (M * E)) = neg := by
  obtain ⟨b1, b2, b3, b4, b5, b6, b7, b8, b9, b10, b11, b12, b13, b14, b15⟩ := hf.bd
  have hME := ME_lt hf
  obtain ⟨h1, h2, h3⟩ := sgn_cls hf neg (M * E) (by omega)
  refine ⟨?_, h3, h2⟩
  rw [h1]
  obtain ⟨f1, f2, f3, f4, f5⟩ := fields hf (M * E) (by omega)
  have h4 : M * E / M = E := Nat.mul_div_cancel_left _ (by omega)
  have h5 : M * E % M = 0 := Nat.mul_mod_right _ _
  unfold clsS
  rw [f1, h4, h5, if_neg (by omega), if_neg (by simp), if_pos rfl]
theorem none_is (hf : Fm B P W M E H low) : clsS M E (M * E + M / 2) = 4 ∧ M * E + M / 2 < 2 * H := by
  obtain ⟨b1, b2, b3, b4, b5, b6, b7, b8, b9, b10, b11, b12, b13, b14, b15⟩ := hf.bd
  have hME := ME_lt hf
  have hh := hf.hlf.2
  have hl : M * E + M / 2 < H := by omega
  refine ⟨?_, by omega⟩
  obtain ⟨f1, f2, f3, f4, f5⟩ := fields hf (M * E + M / 2) hl
  have h4 : (M * E + M / 2) / M = E := by rw [Nat.add_comm, Nat.add_mul_div_left _ _ (by omega), Nat.div_eq_of_lt (by omega), Nat.zero_add]
  have h5 : (M * E + M / 2) % M = M / 2 := by rw [Nat.add_comm, Nat.add_mul_mod_self_left, Nat.mod_eq_of_lt (by omega)]
  unfold clsS
  rw [f1, h4, h5, if_neg (by omega), if_neg (by simp), if_neg (by omega), Nat.div_self (by omega), if_pos rfl]
/-- a finite one of a sign. -/
theorem fin_is (hf : Fm B P W M E H low) (neg : Bool) {k : Nat} (hk : k < M * E) : clsS M E (sgn H neg k) ≤ 2 ∧ sgn H neg k < 2 * H ∧ ngB H (sgn H neg k) = neg := by
  obtain ⟨a1, a2⟩ := lt_finite hf k hk
  obtain ⟨h1, h2, h3⟩ := sgn_cls hf neg k a1
  exact ⟨by rw [h1]; exact (cls_fin hf k).2 a2, h3, h2⟩
theorem sgn_le (hf : Fm B P W M E H low) (neg : Bool) {k : Nat} (hk : k ≤ M * E) : clsS M E (sgn H neg k) ≤ 3 ∧ sgn H neg k < 2 * H ∧ ngB H (sgn H neg k) = neg := by
  rcases Nat.lt_or_ge k (M * E) with h | h
  · obtain ⟨h1, h2, h3⟩ := fin_is hf neg h
    exact ⟨by omega, h2, h3⟩
  · obtain rfl : k = M * E := by omega
    obtain ⟨h1, h2, h3⟩ := inf_is hf neg
    exact ⟨by omega, h2, h3⟩
theorem quiet_is (hf : Fm B P W M E H low) {b : Nat} (hb : b < 2 * H) (hn : nanB M E b = true) : clsS M E (qtS M H b) = 4 ∧ qtS M H b < 2 * H := by
  obtain ⟨b1, b2, b3, b4, b5, b6, b7, b8, b9, b10, b11, b12, b13, b14, b15⟩ := hf.bd
  obtain ⟨e1, e2⟩ := hf.hlf
  have hn' : 4 ≤ clsS M E b := by unfold nanB at hn; exact of_decide_eq_true hn
  have hx : b / M % (E + 1) = E := by
    refine Classical.byContradiction fun h => ?_
    have := (cls_fin hf b).2 h
    omega
  have h0 : b % M ≠ 0 := by
    intro h
    unfold clsS at hn'
    rw [if_neg (by omega), if_neg (by omega), if_pos h] at hn'
    omega
  have hq := qts_high hf b
  rw [Nat.mod_eq_of_lt hb] at hq
  unfold qtS
  rw [Nat.mod_eq_of_lt hb, hq]
  by_cases h1 : b % M / (M / 2) % 2 = 1
  · rw [if_pos h1]
    refine ⟨?_, hb⟩
    unfold clsS
    rw [if_neg (by omega), if_neg (by omega), if_neg h0, if_pos h1]
  · rw [if_neg h1]
    have hr : b % M < M := Nat.mod_lt _ (by omega)
    have h2 : b % M < M / 2 := by
      refine Classical.byContradiction fun h => h1 ((half_bit e2 hr).2 (by omega))
    have hd := Nat.div_add_mod b M
    have h3 : (b + M / 2) / M = b / M := by
      rw [show b + M / 2 = (b % M + M / 2) + M * (b / M) by omega, Nat.add_mul_div_left _ _ (by omega), Nat.div_eq_of_lt (by omega), Nat.zero_add]
    have h4 : (b + M / 2) % M = b % M + M / 2 := by
      rw [show b + M / 2 = (b % M + M / 2) + M * (b / M) by omega, Nat.add_mul_mod_self_left, Nat.mod_eq_of_lt (by omega)]
    constructor
    · unfold clsS
      rw [h3, h4, if_neg (by omega), if_neg (by omega), if_neg (by omega), if_pos ((half_bit e2 (by omega)).2 (by omega))]
    · have h5 : b / M < 2 * (E + 1) := by
        rw [Nat.div_lt_iff_lt_mul (by omega), Nat.mul_assoc, Nat.mul_comm (E + 1), e1]
        exact hb
      have h6 : (b + M / 2) / M < 2 * (E + 1) := by rw [h3]; exact h5
      rw [Nat.div_lt_iff_lt_mul (by omega), Nat.mul_assoc, Nat.mul_comm (E + 1), e1] at h6
      exact h6
/-- what rounding tells. -/
theorem round_out (hf : Fm B P W M E H low) {mode : Int} (hm : 0 ≤ mode ∧ mode ≤ 4) {d : D} (hd : mayR d = true) (s : Bool) :
    ∃ (g : Bool) (k : Nat) (fl : Int), k ≤ M * E ∧ roundS P M E H low mode d s = (sgn H g k, fl, 0) ∧ (fl = 0 ∨ fl = 1 ∨ fl = 3 ∨ fl = 5) ∧ g = (if d.x = 0 then s else d.neg) := by
  have hME := ME_lt hf
  by_cases h0 : d.x = 0
  · exact ⟨s, 0, 0, by omega, roundS_zero hm hd h0 s, .inl rfl, by rw [if_pos h0]⟩
  · unfold roundS
    rw [if_neg (by omega), hd, if_pos rfl, if_neg h0, if_neg h0]
    by_cases h1 : rC P M low mode d.neg d.vl.natAbs < M * E
    · rw [if_pos h1]
      refine ⟨_, _, _, by omega, rfl, ?_, rfl⟩
      unfold flgS
      split
      · exact .inl rfl
      · split
        · exact .inr (.inr (.inl rfl))
        · exact .inr (.inl rfl)
    · rw [if_neg h1]
      unfold begS
      refine ⟨_, _, _, ?_, rfl, .inr (.inr (.inr rfl)), rfl⟩
      split <;> omega
/-- what is told of two terms. -/
theorem bits_out (hf : Fm B P W M E H low) {mode : Int} (hm : 0 ≤ mode ∧ mode ≤ 4) (g i : Bool) {d : D} (hd : i = false → mayR d = true) :
    ∃ (t : Nat) (fl : Int), bitsS P M E H low mode ⟨g, i, d⟩ = (t, fl, 0) ∧ clsS M E t ≤ 3 ∧ t < 2 * H ∧ (fl = 0 ∨ fl = 1 ∨ fl = 3 ∨ fl = 5) := by
  unfold bitsS
  cases i
  · obtain ⟨g', k, fl, h1, h2, h3, h4⟩ := round_out hf hm (hd rfl) g
    obtain ⟨c1, c2, c3⟩ := sgn_le hf g' h1
    exact ⟨_, fl, by simpa using h2, c1, c2, h3⟩
  · obtain ⟨c1, c2, c3⟩ := inf_is hf g
    exact ⟨_, 0, rfl, by show clsS M E (sgn H g (M * E)) ≤ 3; omega, c2, .inl rfl⟩
theorem sum_out (hf : Fm B P W M E H low) {mode : Int} (hm : 0 ≤ mode ∧ mode ≤ 4) (x y : Tm) (hd : x.inf = false → y.inf = false → mayR (x.d.add y.d) = true) :
    ∃ (t : Nat) (fl : Int), sumT P M E H low mode x y = (t, fl, 0) ∧ t < 2 * H ∧ (clsS M E t ≤ 3 ∧ (fl = 0 ∨ fl = 1 ∨ fl = 3 ∨ fl = 5) ∨ clsS M E t = 4 ∧ fl = 16) := by
  obtain ⟨xg, xi, xd⟩ := x
  obtain ⟨yg, yi, yd⟩ := y
  simp only at hd
  unfold sumT
  simp only
  by_cases h : (xi && yi && (xg != yg)) = true
  · rw [if_pos h]
    obtain ⟨n1, n2⟩ := none_is hf
    exact ⟨_, 16, rfl, n2, .inr ⟨n1, rfl⟩⟩
  · rw [if_neg h]
    have key : ∀ (g i : Bool) (d : D), (i = false → mayR d = true) → ∃ (t : Nat) (fl : Int), bitsS P M E H low mode ⟨g, i, d⟩ = (t, fl, 0) ∧ t < 2 * H ∧ (clsS M E t ≤ 3 ∧ (fl = 0 ∨ fl = 1 ∨ fl = 3 ∨ fl = 5) ∨ clsS M E t = 4 ∧ fl = 16) := fun g i d hd => by
      obtain ⟨t, fl, h1, h2, h3, h4⟩ := bits_out hf hm g i hd
      exact ⟨t, fl, h1, h3, .inl ⟨h2, h4⟩⟩
    cases xi
    · cases yi
      · exact key _ false _ (fun _ => hd rfl rfl)
      · exact key yg true yd (fun e => by cases e)
    · exact key xg true xd (fun e => by cases e)
/-- WHAT A PRODUCT AND A SUM AT ONCE TELL: a number, or what is infinite, of numbers, unless it is Invalid. -/
theorem fma_out (hf : Fm B P W M E H low) {mode : Int} (hm : 0 ≤ mode ∧ mode ≤ 4) {a b c : Nat} (ha : a < 2 * H) (hb : b < 2 * H) (hc : c < 2 * H) :
    ∃ (t : Nat) (fl : Int), fmaI P M E H low mode a b c = (t, fl, 0) ∧ t < 2 * H ∧ (if !nanB M E a && (!nanB M E b && !nanB M E c) then (clsS M E t ≤ 3 ∧ (fl = 0 ∨ fl = 1 ∨ fl = 3 ∨ fl = 5) ∨ clsS M E t = 4 ∧ fl = 16) else clsS M E t = 4 ∧ (fl = 0 ∨ fl = 16)) := by
  unfold fmaI
  rw [wrongS_is hm (by intro x hx; simp only [List.mem_cons, List.not_mem_nil, or_false] at hx; rcases hx with rfl | rfl | rfl <;> assumption), if_neg (by simp)]
  obtain ⟨n1, n2⟩ := none_is hf
  have hsum := sum_out hf hm (prodT (tmS M E H low a) (tmS M E H low b)) (tmS M E H low c) (fun _ _ => (val_fma hf a b c).2.2.1)
  obtain ⟨na, hna⟩ : ∃ x, nanB M E a = x := ⟨_, rfl⟩
  obtain ⟨nb, hnb⟩ : ∃ x, nanB M E b = x := ⟨_, rfl⟩
  obtain ⟨nc, hnc⟩ : ∃ x, nanB M E c = x := ⟨_, rfl⟩
  have h01 : ∀ p q r : Bool, (if p = true then (16 : Int) else if q = true then 16 else if r = true then 16 else 0) = 0 ∨ (if p = true then (16 : Int) else if q = true then 16 else if r = true then 16 else 0) = 16 := by
    intro p q r; cases p <;> cases q <;> cases r <;> simp
  have hfl : ∀ v : Bool, (if v then (16 : Int) else (nonS M E H [a, b, c]).2.1) = 0 ∨ (if v then (16 : Int) else (nonS M E H [a, b, c]).2.1) = 16 := by
    intro v
    cases v
    · simp only [Bool.false_eq_true, if_false]
      unfold nonS nonStep
      simp only [List.foldl_cons, List.foldl_nil]
      exact h01 _ _ _
    · exact .inr rfl
  rw [hna, hnb, hnc]
  cases na
  · cases nb
    · cases nc
      · have hno : (nonS M E H [a, b, c]).2.2 = false := by unfold nonS nonStep; simp [hna, hnb, hnc]
        rw [hno]
        simp only [Bool.false_eq_true, if_false, Bool.not_false, Bool.and_self, if_true]
        split
        · exact ⟨_, 16, rfl, n2, .inr ⟨n1, rfl⟩⟩
        · exact hsum
      · have hno : nonS M E H [a, b, c] = (qtS M H c, (nonS M E H [a, b, c]).2.1, true) := by unfold nonS nonStep; simp [hna, hnb, hnc]
        obtain ⟨q1, q2⟩ := quiet_is hf hc hnc
        refine ⟨qtS M H c, _, by rw [if_pos (by rw [hno])]; rw [show (nonS M E H [a, b, c]).1 = qtS M H c by rw [hno]], q2, ?_⟩
        rw [if_neg (by decide)]
        exact ⟨q1, hfl _⟩
    · have hno : nonS M E H [a, b, c] = (qtS M H b, (nonS M E H [a, b, c]).2.1, true) := by unfold nonS nonStep; simp [hna, hnb]
      obtain ⟨q1, q2⟩ := quiet_is hf hb hnb
      refine ⟨qtS M H b, _, by rw [if_pos (by rw [hno])]; rw [show (nonS M E H [a, b, c]).1 = qtS M H b by rw [hno]], q2, ?_⟩
      rw [if_neg (by simp)]
      exact ⟨q1, hfl _⟩
  · have hno : nonS M E H [a, b, c] = (qtS M H a, (nonS M E H [a, b, c]).2.1, true) := by unfold nonS nonStep; simp [hna]
    obtain ⟨q1, q2⟩ := quiet_is hf ha hna
    refine ⟨qtS M H a, _, by rw [if_pos (by rw [hno])]; rw [show (nonS M E H [a, b, c]).1 = qtS M H a by rw [hno]], q2, ?_⟩
    rw [if_neg (by simp)]
    exact ⟨q1, hfl _⟩
/-- rounded again, with the sign that was told: the same. -/
theorem round_same (hf : Fm B P W M E H low) {mode : Int} (hm : 0 ≤ mode ∧ mode ≤ 4) {d : D} (hd : mayR d = true) (s : Bool) {t : Nat} {fl e : Int} (hr : roundS P M E H low mode d s = (t, fl, e)) :
    roundS P M E H low mode d (ngB H t) = (t, fl, e) ∧ e = 0 ∧ t < 2 * H ∧ (fl = 0 ∨ fl = 1 ∨ fl = 3 ∨ fl = 5) := by
  obtain ⟨g, k, fl', h1, h2, h3, h4⟩ := round_out hf hm hd s
  rw [hr] at h2
  simp only [Prod.mk.injEq] at h2
  obtain ⟨rfl, rfl, rfl⟩ := h2
  obtain ⟨c1, c2, c3⟩ := sgn_le hf g h1
  refine ⟨?_, rfl, c2, h3⟩
  rw [c3]
  by_cases h0 : d.x = 0
  · rw [if_pos h0] at h4
    rw [h4]
    rw [h4] at hr
    exact hr
  · rw [← hr]
    unfold roundS
    rw [if_neg h0, if_neg h0]
/-- WHAT IS TOLD IS THE NUMBER ITSELF just where it isn't Inexact. -/
theorem round_exact (hf : Fm B P W M E H low) {mode : Int} (hm : 0 ≤ mode ∧ mode ≤ 4) {d : D} (hd : mayR d = true) (he : -40000 ≤ d.e) (s : Bool) {t : Nat} {fl e : Int} (hr : roundS P M E H low mode d s = (t, fl, e)) :
    fl = 0 ↔ ((valS M E H low t).2 = 0 ∧ (valS M E H low t).1.vl = d.vl) := by
  have hME := ME_lt hf
  by_cases h0 : d.x = 0
  · rw [roundS_zero hm hd h0 s] at hr
    simp only [Prod.mk.injEq] at hr
    obtain ⟨rfl, rfl, rfl⟩ := hr
    obtain ⟨z1, z2, z3, z4⟩ := zero_is hf s
    constructor
    · intro _
      refine ⟨?_, ?_⟩
      · rw [val_fin hf z3 (by omega)]
      · rw [z4, D.vl_zero.2 h0, D.vl_zero.2 (show (⟨false, 0, 0⟩ : D).x = 0 from rfl)]
    · intro _; rfl
  · have hsgn : ∀ v : Nat, (if d.neg then -(v : Int) else (v : Int)) = d.vl ↔ v = d.vl.natAbs := by
      intro v
      have h1 := D.vl_neg (d := d)
      have h2 : d.vl = if d.neg then -(d.vl.natAbs : Int) else (d.vl.natAbs : Int) := by
        rw [D.vl_natAbs]
        unfold D.vl D.sz
        cases d.neg
        · simp
        · simp [Int.neg_mul]
      generalize d.vl = z at *
      cases hn : d.neg
      · rw [hn, if_neg (by decide)] at h2
        rw [if_neg (by decide)]
        omega
      · rw [hn, if_pos rfl] at h2
        rw [if_pos rfl]
        omega
    unfold roundS at hr
    rw [if_neg (by omega), hd, if_pos rfl, if_neg h0] at hr
    by_cases h1 : rC P M low mode d.neg d.vl.natAbs < M * E
    · rw [if_pos h1] at hr
      simp only [Prod.mk.injEq] at hr
      obtain ⟨rfl, rfl, rfl⟩ := hr
      obtain ⟨v1, v2⟩ := val_abs hf d.neg _ h1
      rw [v1]
      simp only
      rw [v2, hsgn]
      constructor
      · intro hz
        refine ⟨trivial, ?_⟩
        have h2 : valU M low (flC P M low d.vl.natAbs) = d.vl.natAbs := by
          unfold flgS at hz
          split at hz
          · assumption
          · split at hz <;> cases hz
        have h3 : rC P M low mode d.neg d.vl.natAbs = flC P M low d.vl.natAbs := by
          conv => lhs; rw [← h2]
          rw [rC_val hf]
        rw [h3, h2]
      · intro hz
        have h2 : flC P M low d.vl.natAbs = rC P M low mode d.neg d.vl.natAbs := by
          conv => lhs; rw [← hz.2]
          rw [fl_val hf]
        unfold flgS
        rw [if_pos (by rw [h2]; exact hz.2)]
    · rw [if_neg h1] at hr
      simp only [Prod.mk.injEq] at hr
      obtain ⟨rfl, rfl, rfl⟩ := hr
      constructor
      · intro h; cases h
      · rintro ⟨h2, h3⟩
        exfalso
        unfold begS at h2 h3
        by_cases ht : tow0 mode d.neg = true
        · rw [if_pos ht] at h2 h3
          obtain ⟨v1, v2⟩ := val_abs hf d.neg (M * E - 1) (by omega)
          rw [v1] at h3
          simp only at h3
          rw [v2, hsgn] at h3
          rw [← h3, rC_val hf] at h1
          omega
        · rw [if_neg ht] at h2
          obtain ⟨i1, i2, i3⟩ := inf_is hf d.neg
          have h4 : sgn H d.neg (M * E) / M % (E + 1) = E := by
            refine Classical.byContradiction fun h => ?_
            have := (cls_fin hf (sgn H d.neg (M * E))).2 h
            omega
          unfold valS at h2
          rw [if_pos i2, if_pos h4] at h2
          cases h2
end
end Go.Proofs.YtpachoeignpcbaaDoor
