/-
  The walk of dyad's Floor.
  The walks of dyad's compareSizes, Cmp, Same.
  The walks of dyad's Cmp, Same.
  Plain mathematics of whole numbers times powers of 2: how great sums and products are.
  dyad's functions by what they tell; the walk of Same.
-/
import Derived.Test.YtpachoeignpcbaaGreatDoorDD
namespace Go.Proofs.YtpachoeignpcbaaGreatDoor
open Go.RowKit
set_option linter.unusedVariables false

def floorS (a : D) (at_ : Int) : D × Bool × Int :=
  if a.may then (if plB at_ then (if at_ ≤ a.e then (a.pl, false, 0) else (D.pl ⟨a.neg, a.x / 2 ^ (at_ - a.e).toNat, at_⟩, decide (a.x % 2 ^ (at_ - a.e).toNat ≠ 0), 0)) else (⟨false, 0, 0⟩, false, 1)) else (⟨false, 0, 0⟩, false, 3)
def FlPost (w : World) (r : D × Bool × Int) (e : Ending) (w' : World) : Prop := ∃ A n, e = .returned (.tuple #[.agg #[.bool r.1.neg, .slice A n n, .int .i64 r.1.e], .bool r.2.1, .int .i64 r.2.2]) ∧ Res w' A n r.1.x ∧ Below w.heap.size w w'
theorem floorS_err {a : D} (at_ : Int) (h : a.may = false) : floorS a at_ = (⟨false, 0, 0⟩, false, 3) := by unfold floorS; rw [h]; rfl
theorem floorS_arg {a : D} {at_ : Int} (h : a.may = true) (hp : plB at_ = false) : floorS a at_ = (⟨false, 0, 0⟩, false, 1) := by unfold floorS; rw [h, hp]; rfl

theorem div_pow_split (x t k : Nat) (h : t ≤ k) : x / 2 ^ k = x / 2 ^ t / 2 ^ (k - t) := by
  rw [Nat.div_div_eq_div_mul, ← Nat.pow_add]; congr 2; omega
theorem tz_shift {q : Nat} (hq : q % 2 = 1) (r : Nat) : tz (2 ^ r * q) = r := by
  have : Ctz (2 ^ r * q) r := ⟨Nat.mul_ne_zero (Nat.ne_of_gt (Nat.two_pow_pos _)) (by omega), q / 2, by congr 1; omega⟩
  exact this.eq_tz.symm
/-- what is shifted to the right no farther than its bits 0 go is the same number. -/
theorem pl_right_exact {n : Bool} {x k : Nat} {e : Int} (hx : x ≠ 0) (hk : k ≤ tz x) : (⟨n, x / 2 ^ k, e + k⟩ : D).pl = (⟨n, x, e⟩ : D).pl ∧ x % 2 ^ k = 0 := by
  obtain ⟨_, h2, h3⟩ := tz_blen hx
  have e1 : x = 2 ^ k * (2 ^ (tz x - k) * (x / 2 ^ tz x)) := by
    rw [← Nat.mul_assoc, ← Nat.pow_add, show k + (tz x - k) = tz x by omega]; exact h2
  have e2 : x / 2 ^ k = 2 ^ (tz x - k) * (x / 2 ^ tz x) := by
    have := Nat.mul_div_cancel_left (2 ^ (tz x - k) * (x / 2 ^ tz x)) (Nat.two_pow_pos k)
    rw [← e1] at this
    exact this
  have e3 := tz_shift h3 (tz x - k)
  rw [← e2] at e3
  have e4 : x / 2 ^ k ≠ 0 := by
    rw [e2]; exact Nat.mul_ne_zero (Nat.ne_of_gt (Nat.two_pow_pos _)) (by omega)
  refine ⟨?_, ?_⟩
  · rw [D.pl_pos (d := ⟨n, x, e⟩) hx, D.pl_pos (d := ⟨n, x / 2 ^ k, e + k⟩) e4]
    show (⟨n, x / 2 ^ k / 2 ^ tz (x / 2 ^ k), e + k + (tz (x / 2 ^ k) : Int)⟩ : D) = ⟨n, x / 2 ^ tz x, e + (tz x : Int)⟩
    rw [e3, ← div_pow_split x k (tz x) hk]
    congr 1
    omega
  · rw [e1]; exact Nat.mul_mod_right _ _
theorem floor_pl {a : D} {at_ : Int} (h : a.may = true) (hp : plB at_ = true) :
    (at_ ≤ a.pl.e → floorS a at_ = (a.pl, false, 0)) ∧ (a.pl.e < at_ → floorS a at_ = (D.pl ⟨a.pl.neg, a.pl.x / 2 ^ (at_ - a.pl.e).toNat, at_⟩, decide (a.pl.x % 2 ^ (at_ - a.pl.e).toNat ≠ 0), 0)) := by
  obtain ⟨an, ax, ae⟩ := a
  unfold floorS
  rw [h, hp, if_pos rfl, if_pos rfl]
  simp only
  by_cases h0 : ax = 0
  · subst h0
    rw [D.pl_zero (d := ⟨an, 0, ae⟩) rfl]
    simp only [Nat.zero_div, Nat.zero_mod]
    refine ⟨fun _ => ?_, fun _ => ?_⟩
    · split
      · rfl
      · rw [D.pl_zero (d := ⟨an, 0, at_⟩) rfl]; rfl
    · split
      · rw [D.pl_zero (d := ⟨false, 0, at_⟩) rfl]; rfl
      · rw [D.pl_zero (d := ⟨an, 0, at_⟩) rfl, D.pl_zero (d := ⟨false, 0, at_⟩) rfl]; simp
  · have hpl := D.pl_pos (d := ⟨an, ax, ae⟩) h0
    simp only at hpl
    obtain ⟨t1, t2, t3⟩ := tz_blen h0
    constructor
    · intro hle
      rw [hpl] at hle
      simp only at hle
      by_cases hc : at_ ≤ ae
      · rw [if_pos hc]
      · rw [if_neg hc]
        obtain ⟨k, hk⟩ := Int.eq_ofNat_of_zero_le (show 0 ≤ at_ - ae by omega)
        obtain ⟨r1, r2⟩ := pl_right_exact (n := an) (e := ae) h0 (k := k) (by omega)
        rw [hk, Int.toNat_natCast, r2, show at_ = ae + (k : Int) by omega, r1]
        rfl
    · intro hlt
      rw [hpl] at hlt ⊢
      simp only at hlt ⊢
      have hc : ¬ at_ ≤ ae := by omega
      rw [if_neg hc, show (at_ - ae).toNat = (at_ - (ae + (tz ax : Int))).toNat + tz ax by omega]
      generalize hk : (at_ - (ae + (tz ax : Int))).toNat = k
      have hk0 : 0 < k := by omega
      rw [div_pow_split ax (tz ax) (k + tz ax) (by omega), Nat.add_sub_cancel]
      have e1 : decide (ax % 2 ^ (k + tz ax) ≠ 0) = true := by
        refine decide_eq_true ?_
        exact ((tz_ctz ax h0).mod (k + tz ax)).1 (by omega)
      have e2 : decide (ax / 2 ^ tz ax % 2 ^ k ≠ 0) = true := by
        refine decide_eq_true (fun e => ?_)
        obtain ⟨k', rfl⟩ : ∃ k', k = k' + 1 := ⟨k - 1, by omega⟩
        have := Nat.mod_mod_of_dvd (ax / 2 ^ tz ax) (show 2 ∣ 2 ^ (k' + 1) from ⟨2 ^ k', by rw [Nat.pow_succ, Nat.mul_comm]⟩)
        rw [e] at this
        omega
      rw [e1, e2]

set_option maxHeartbeats 1000000 in
theorem floor_err {A : Option Addr} {n c x : Nat} {neg : Bool} {e at_ : Int} {w : World} (h : Arg w A n c x) (hs : n ≤ 30000) (hT : Tab w) (HM : Hid (D.may ⟨neg, x, e⟩ = false)) :
    Calls Tryz.prog 119 #[.agg #[.bool neg, .slice A n c, .int .i64 e], .int .i64 at_] w (FlPost w (floorS ⟨neg, x, e⟩ at_)) := by
  rw [floorS_err _ HM.out]
  go_enter Tryz.func119, Tryz.ntmps119
  go_wp2_with fail
  obtain ⟨W, hW, z0, z1, BW, sW⟩ := frame2 w 48 48 neg A n c e false none 0 0 0
  rw [hW]
  clear hW
  refine (may_as false (h.on BW) (by omega) HM.out).mono ?_
  rintro en w1 ⟨rfl, b⟩
  have z0 := z0.on b
  have z1 := z1.on b
  have BW := Below.step BW b
  clear b
  obtain ⟨p0, p1, p2, g0, g1, g2, _⟩ := z1.cells
  go_wp2_with fail
  refine bodyPost_ret (v := .tuple #[.agg #[.bool false, .slice none 0 0, .int .i64 0], .bool false, .int .i64 3]) (by simp [results, Tryz.results119, go_sem, p0, p1, p2]) rfl ?_
  exact ⟨none, 0, rfl, Res.none_ _, below_put3 BW (by omega) _ _ _⟩

set_option maxHeartbeats 1000000 in
theorem floor_arg {A : Option Addr} {n c x : Nat} {neg : Bool} {e at_ : Int} {w : World} (h : Arg w A n c x) (hs : n ≤ 30000) (hT : Tab w) (HM : Hid (D.may ⟨neg, x, e⟩ = true)) (hp : plB at_ = false) :
    Calls Tryz.prog 119 #[.agg #[.bool neg, .slice A n c, .int .i64 e], .int .i64 at_] w (FlPost w (floorS ⟨neg, x, e⟩ at_)) := by
  rw [floorS_arg HM.out hp]
  have HPB := Lib.hid (fun W => isPlace_any at_ W)
  rw [hp] at HPB
  go_enter Tryz.func119, Tryz.ntmps119
  go_wp2_with fail
  obtain ⟨W, hW, z0, z1, BW, sW⟩ := frame2 w 48 48 neg A n c e false none 0 0 0
  rw [hW]
  clear hW
  refine (may_as true (h.on BW) (by omega) HM.out).mono ?_
  rintro en w1 ⟨rfl, b⟩
  have z0 := z0.on b
  have z1 := z1.on b
  have BW := Below.step BW b
  clear b
  go_wp2_with fail
  refine (HPB.out _).mono ?_
  rintro en w' ⟨rfl, rfl⟩
  obtain ⟨p0, p1, p2, g0, g1, g2, _⟩ := z1.cells
  go_wp2_with fail
  refine bodyPost_ret (v := .tuple #[.agg #[.bool false, .slice none 0 0, .int .i64 0], .bool false, .int .i64 1]) (by simp [results, Tryz.results119, go_sem, p0, p1, p2]) rfl ?_
  exact ⟨none, 0, rfl, Res.none_ _, below_put3 BW (by omega) _ _ _⟩

set_option maxHeartbeats 1000000 in
theorem floor_ge {A : Option Addr} {n c x : Nat} {neg : Bool} {e at_ : Int} {w : World} (h : Arg w A n c x) (hs : n ≤ 30000) (hT : Tab w) (HM : Hid (D.may ⟨neg, x, e⟩ = true)) (hp : plB at_ = true) {dn : Bool} {dx : Nat} {de : Int} (HD : Hid (D.pl ⟨neg, x, e⟩ = ⟨dn, dx, de⟩)) (hge : at_ ≤ de) :
    Calls Tryz.prog 119 #[.agg #[.bool neg, .slice A n c, .int .i64 e], .int .i64 at_] w (FlPost w (floorS ⟨neg, x, e⟩ at_)) := by
  have e1 := (floor_pl HM.out hp).1
  rw [HD.out] at e1
  rw [e1 hge]
  clear e1
  obtain ⟨_, m1, m2⟩ := (D.may_iff _).1 HM.out
  simp only at m1 m2
  obtain ⟨a1, a2, a3, a4, a5⟩ := pl_bounds HM.out
  rw [HD.out] at a1 a2 a3 a4
  simp only at a1 a2 a3 a4
  clear a5
  obtain ⟨t1, t2⟩ := (plB_iff at_).1 hp
  have HPB := Lib.hid (fun W => isPlace_any at_ W)
  rw [hp] at HPB
  go_enter Tryz.func119, Tryz.ntmps119
  go_wp2_with fail
  obtain ⟨W, hW, z0, z1, BW, sW⟩ := frame2 w 48 48 neg A n c e false none 0 0 0
  rw [hW]
  clear hW
  refine (may_as true (h.on BW) (by omega) HM.out).mono ?_
  rintro en w1 ⟨rfl, b⟩
  have z0 := z0.on b
  have z1 := z1.on b
  have BW := Below.step BW b
  clear b
  obtain ⟨p0, p1, p2, g0, g1, g2, _⟩ := z0.cells
  go_wp2_with fail
  refine (HPB.out _).mono ?_
  rintro en w' ⟨rfl, rfl⟩
  go_wp2_with fail
  refine (pl_as (h.on BW) hs (hT.on BW) (by omega) (by omega) HD.out).mono ?_
  rintro en w2 ⟨V, v, rfl, rv, b⟩
  have z0 := z0.on b
  have z1 := z1.on b
  have BW := Below.step BW b
  clear b p0 p1 p2 g0 g1 g2
  have hv := res_n_le rv (k := 128) a1
  obtain ⟨p0, p1, p2, g0, g1, g2, _⟩ := z0.cells
  have hne : w.heap.size + 1 ≠ w.heap.size := by omega
  obtain ⟨q0, q1, q2, i0, i1, i2, _⟩ := (z1.other (s := w.heap.size) (by omega) (.bool dn) (.slice V v v) (.int .i64 de)).cells
  go_wp2_with fail
  refine bodyPost_ret (v := .tuple #[.agg #[.bool dn, .slice V v v, .int .i64 de], .bool false, .int .i64 0]) (by simp [results, Tryz.results119, go_sem, q0, q1, q2]) rfl ?_
  have rv := z0.res rv (.bool dn) (.slice V v v) (.int .i64 de)
  have z1 := z1.other (s := w.heap.size) (by omega) (.bool dn) (.slice V v v) (.int .i64 de)
  exact ⟨V, v, rfl, z1.res rv _ _ _, below_put3 (below_put3 BW (Nat.le_refl _) _ _ _) (by omega) _ _ _⟩

set_option maxHeartbeats 1000000 in
theorem floor_lt {A : Option Addr} {n c x : Nat} {neg : Bool} {e at_ : Int} {w : World} (h : Arg w A n c x) (hs : n ≤ 30000) (hT : Tab w) (HM : Hid (D.may ⟨neg, x, e⟩ = true)) (hp : plB at_ = true) {dn : Bool} {dx : Nat} {de : Int} (HD : Hid (D.pl ⟨neg, x, e⟩ = ⟨dn, dx, de⟩)) (hlt : de < at_) :
    Calls Tryz.prog 119 #[.agg #[.bool neg, .slice A n c, .int .i64 e], .int .i64 at_] w (FlPost w (floorS ⟨neg, x, e⟩ at_)) := by
  have e1 := (floor_pl HM.out hp).2
  rw [HD.out] at e1
  rw [e1 hlt]
  clear e1
  obtain ⟨_, m1, m2⟩ := (D.may_iff _).1 HM.out
  simp only at m1 m2
  obtain ⟨a1, a2, a3, a4, a5⟩ := pl_bounds HM.out
  rw [HD.out] at a1 a2 a3 a4
  simp only at a1 a2 a3 a4
  clear a5
  obtain ⟨t1, t2⟩ := (plB_iff at_).1 hp
  have HPB := Lib.hid (fun W => isPlace_any at_ W)
  rw [hp] at HPB
  simp only
  obtain ⟨⟨rn, rx, re⟩, hr⟩ : ∃ r, D.pl ⟨dn, dx / 2 ^ (at_ - de).toNat, at_⟩ = r := ⟨_, rfl⟩
  obtain ⟨bl, hbl⟩ : ∃ bl, decide (dx % 2 ^ (at_ - de).toNat ≠ 0) = bl := ⟨_, rfl⟩
  rw [hr, hbl]
  have HR := Lib.hid hr
  have HBL := Lib.hid hbl
  clear hr hbl
  go_enter Tryz.func119, Tryz.ntmps119
  go_wp2_with fail
  obtain ⟨W, hW, z0, z1, BW, sW⟩ := frame2 w 48 48 neg A n c e false none 0 0 0
  rw [hW]
  clear hW
  refine (may_as true (h.on BW) (by omega) HM.out).mono ?_
  rintro en w1 ⟨rfl, b⟩
  have z0 := z0.on b
  have z1 := z1.on b
  have BW := Below.step BW b
  clear b
  obtain ⟨p0, p1, p2, g0, g1, g2, _⟩ := z0.cells
  go_wp2_with fail
  refine (HPB.out _).mono ?_
  rintro en w' ⟨rfl, rfl⟩
  go_wp2_with fail
  refine (pl_as (h.on BW) hs (hT.on BW) (by omega) (by omega) HD.out).mono ?_
  rintro en w2 ⟨V, v, rfl, rv, b⟩
  have z0 := z0.on b
  have z1 := z1.on b
  have BW := Below.step BW b
  clear b p0 p1 p2 g0 g1 g2
  have hv := res_n_le rv (k := 128) a1
  obtain ⟨p0, p1, p2, g0, g1, g2, _⟩ := z0.cells
  go_wp2_with fail
  clear p0 p1 p2 g0 g1 g2
  obtain ⟨w3, e1, e2⟩ := put3_named w2 w.heap.size (.bool dn) (.slice V v v) (.int .i64 de)
  have rv := z0.res rv (.bool dn) (.slice V v v) (.int .i64 de)
  have z1 := z1.other (s := w.heap.size) (by omega) (.bool dn) (.slice V v v) (.int .i64 de)
  have z0 := z0.put_d dn V v v de
  have BW := below_put3 BW (Nat.le_refl _) (.bool dn) (.slice V v v) (.int .i64 de)
  rw [e1]
  rw [e2] at rv z0 z1 BW
  clear e1 e2
  refine (right_bl (rv.arg (by omega)) (by omega) (at_ - de) (by omega) (hT.on BW) bl HBL).mono ?_
  rintro en w4 ⟨V2, v2, rfl, rv2, l2, b⟩
  have z0 := z0.on b
  have z1 := z1.on b
  have BW := Below.step BW b
  clear b
  obtain ⟨p0, p1, p2, g0, g1, g2, _⟩ := z0.cells
  go_wp2_with fail
  refine (pl_as (rv2.arg (by omega)) (by omega) (hT.on BW) (by omega) (by omega) HR.out).mono ?_
  rintro en w5 ⟨V3, v3, rfl, rv3, b⟩
  have z1 := z1.on b
  have BW := Below.step BW b
  clear b p0 p1 p2 g0 g1 g2
  obtain ⟨p0, p1, p2, g0, g1, g2, _⟩ := z1.cells
  go_wp2_with fail
  refine bodyPost_ret (v := .tuple #[.agg #[.bool rn, .slice V3 v3 v3, .int .i64 re], .bool bl, .int .i64 0]) (by simp [results, Tryz.results119, go_sem, p0, p1, p2]) rfl ?_
  exact ⟨V3, v3, rfl, z1.res rv3 _ _ _, below_put3 BW (by omega) _ _ _⟩

theorem dfloor_any {A : Option Addr} {n c x : Nat} {neg : Bool} {e at_ : Int} {w : World} (h : Arg w A n c x) (hs : n ≤ 30000) (hT : Tab w) :
    Calls Tryz.prog 119 #[.agg #[.bool neg, .slice A n c, .int .i64 e], .int .i64 at_] w (FlPost w (floorS ⟨neg, x, e⟩ at_)) := by
  obtain ⟨m, hm⟩ : ∃ b, D.may ⟨neg, x, e⟩ = b := ⟨_, rfl⟩
  cases m
  · exact floor_err h hs hT hm
  · obtain ⟨p, hp⟩ : ∃ b, plB at_ = b := ⟨_, rfl⟩
    cases p
    · exact floor_arg h hs hT hm hp
    · obtain ⟨⟨dn, dx, de⟩, hd⟩ : ∃ d, D.pl ⟨neg, x, e⟩ = d := ⟨_, rfl⟩
      by_cases hge : at_ ≤ de
      · exact floor_ge h hs hT hm hp hd hge
      · exact floor_lt h hs hT hm hp hd (by omega)
end Go.Proofs.YtpachoeignpcbaaGreatDoor

namespace Go.Proofs.YtpachoeignpcbaaGreatDoor
open Go.RowKit
set_option linter.unusedVariables false

/-- a number's size, in units of 2^-40000. -/
def D.ab (d : D) : Nat := d.x * 2 ^ (d.e + 40000).toNat
theorem D.vl_ab (d : D) : d.vl = if d.neg then -(d.ab : Int) else (d.ab : Int) := by
  unfold D.vl D.sz D.ab
  rw [Int.natCast_mul, two_cast]
  cases d.neg <;> simp [Int.neg_mul]
theorem ab_top {a b : D} (ha : -40000 ≤ a.e) (hb : -40000 ≤ b.e) (hy : b.x ≠ 0) (h : (blen a.x : Int) + a.e < (blen b.x : Int) + b.e) : a.ab < b.ab := by
  unfold D.ab
  have h1 := (blen_le a.x (blen a.x)).1 (Nat.le_refl _)
  obtain ⟨h2, h3⟩ := blen_pos hy
  have e1 : a.x * 2 ^ (a.e + 40000).toNat < 2 ^ blen a.x * 2 ^ (a.e + 40000).toNat := Nat.mul_lt_mul_of_pos_right h1 (Nat.two_pow_pos _)
  have e2 : 2 ^ (blen b.x - 1) * 2 ^ (b.e + 40000).toNat ≤ b.x * 2 ^ (b.e + 40000).toNat := Nat.mul_le_mul_right _ h2
  rw [← Nat.pow_add] at e1 e2
  have e3 : 2 ^ (blen a.x + (a.e + 40000).toNat) ≤ 2 ^ (blen b.x - 1 + (b.e + 40000).toNat) := Nat.pow_le_pow_right (by omega) (by omega)
  omega
theorem cmp_scale (X Y k : Nat) : cmpI (X : Int) (Y : Int) = cmpI ((X * 2 ^ k : Nat) : Int) ((Y * 2 ^ k : Nat) : Int) := by
  have hp := Nat.two_pow_pos k
  rcases Nat.lt_trichotomy X Y with h | h | h
  · rw [cmpI_of_lt h, cmpI_of_lt (Nat.mul_lt_mul_of_pos_right h hp)]
  · rw [cmpI_of_eq h, cmpI_of_eq (by rw [h])]
  · rw [cmpI_of_gt h, cmpI_of_gt (Nat.mul_lt_mul_of_pos_right h hp)]
theorem ab_at {n : Bool} {x i : Nat} {e m : Int} (hm : -40000 ≤ m) (hi : e - m = (i : Int)) : (⟨n, x, e⟩ : D).ab = x * 2 ^ i * 2 ^ (m + 40000).toNat := by
  unfold D.ab
  rw [Nat.mul_assoc, ← Nat.pow_add]
  congr 2
  show (e + 40000).toNat = _
  omega
/-- of plain numbers of one sign or none, which is greater. -/
theorem cmp_tops {a b : D} (ha : -40000 ≤ a.e) (hb : -40000 ≤ b.e) (hx : a.x ≠ 0) (hy : b.x ≠ 0) (h : (blen a.x : Int) - 1 + a.e ≠ (blen b.x : Int) - 1 + b.e) : cmpI ((blen a.x : Int) - 1 + a.e) ((blen b.x : Int) - 1 + b.e) = cmpI (a.ab : Int) (b.ab : Int) := by
  rcases Int.lt_or_gt_of_ne h with h1 | h1
  · rw [cmpI_of_lt (ab_top ha hb hy (by omega))]
    unfold cmpI
    rw [if_pos h1]
  · rw [cmpI_of_gt (ab_top hb ha hx (by omega))]
    unfold cmpI
    rw [if_neg (by omega), if_pos h1]
theorem cmpI_bd (x y : Int) : -1 ≤ cmpI x y ∧ cmpI x y ≤ 1 := by
  unfold cmpI
  split
  · omega
  · split <;> omega
theorem cmpI_ne {x y : Int} (h : x ≠ y) : (cmpI x y != 0) = true := by
  unfold cmpI
  rcases Int.lt_or_gt_of_ne h with h1 | h1
  · rw [if_pos h1]; rfl
  · rw [if_neg (by omega), if_pos h1]; rfl
theorem cmpInt_as {x y : Int} (k : Int) (hk : cmpI x y = k) (w : World) :
    Calls Tryz.prog 113 #[.int .i64 x, .int .i64 y] w fun e w' => e = .returned (.int .i64 k) ∧ w = w' := by
  subst hk; exact cmpInt_any x y w
theorem top_as {A : Option Addr} {n c x : Nat} {neg : Bool} {e : Int} {w : World} (t : Int) (h : Arg w A n c x) (hs : n ≤ 30000) (he : -1000000 ≤ e) (he2 : e ≤ 1000000) (ht : Hid ((blen x : Int) - 1 + e = t)) :
    Calls Tryz.prog 137 #[.agg #[.bool neg, .slice A n c, .int .i64 e]] w fun en w' => en = .returned (.int .i64 t) ∧ Below w.heap.size w w' := by
  have := top_any (neg := neg) h hs he he2
  rwa [ht.out] at this

/-- two numbers' variables. -/
def KB (w : World) (s : Nat) (an : Bool) (A : Option Addr) (k : Nat) (e : Int) (bn : Bool) (B : Option Addr) (l : Nat) (f : Int) : Prop := DB w s 48 an A k k e ∧ DB w (s + 1) 48 bn B l l f
section
variable {w w' : World} {s : Nat} {an : Bool} {A : Option Addr} {k : Nat} {e : Int} {bn : Bool} {B : Option Addr} {l : Nat} {f : Int}
theorem KB.on (h : KB w s an A k e bn B l f) (hb : Below w.heap.size w w') : KB w' s an A k e bn B l f := ⟨h.1.on hb, h.2.on hb⟩
theorem KB.cells (h : KB w s an A k e bn B l f) : w.cell? ⟨s, 0, none⟩ = some (.bool an) ∧ w.cell? ⟨s, 1, none⟩ = some (.slice A k k) ∧ w.cell? ⟨s, 2, none⟩ = some (.int .i64 e) ∧ w.cell? ⟨s + 1, 0, none⟩ = some (.bool bn) ∧ w.cell? ⟨s + 1, 1, none⟩ = some (.slice B l l) ∧ w.cell? ⟨s + 1, 2, none⟩ = some (.int .i64 f) := by
  obtain ⟨p0, p1, p2, _⟩ := h.1.cells
  obtain ⟨q0, q1, q2, _⟩ := h.2.cells
  exact ⟨p0, p1, p2, q0, q1, q2⟩
end

set_option maxHeartbeats 4000000 in
theorem cs_far {A1 A2 : Option Addr} {n1 n2 ax bx : Nat} {an bn : Bool} {ae be : Int} {w : World} (r1 : Res w A1 n1 ax) (r2 : Res w A2 n2 bx) (s1 : n1 ≤ 128) (s2 : n2 ≤ 128)
    (a1 : blen ax ≤ 4096) (a2 : -8192 ≤ ae) (a3 : ae ≤ 12288) (b1 : blen bx ≤ 4096) (b2 : -8192 ≤ be) (b3 : be ≤ 12288) (q : Int) (HC : Hid (cmpI ((blen ax : Int) - 1 + ae) ((blen bx : Int) - 1 + be) = q)) (hq : (q != 0) = true) :
    Calls Tryz.prog 142 #[.agg #[.bool an, .slice A1 n1 n1, .int .i64 ae], .agg #[.bool bn, .slice A2 n2 n2, .int .i64 be]] w fun en w' => en = .returned (.int .i64 q) ∧ Below w.heap.size w w' := by
  obtain ⟨ta, hta⟩ : ∃ t, (blen ax : Int) - 1 + ae = t := ⟨_, rfl⟩
  obtain ⟨tb, htb⟩ : ∃ t, (blen bx : Int) - 1 + be = t := ⟨_, rfl⟩
  rw [hta, htb] at HC
  have HTA := Lib.hid hta
  have HTB := Lib.hid htb
  clear hta htb
  go_enter Tryz.func142, Tryz.ntmps142
  go_wp2_with fail
  obtain ⟨W, hW, z0, z1, BW, sW⟩ := frame2 w 48 48 an A1 n1 n1 ae bn A2 n2 n2 be
  rw [hW]
  clear hW
  have kb : KB W.drew w.heap.size an A1 n1 ae bn A2 n2 be := KB.on ⟨z0, z1⟩ ((Below.refl _ _).drew)
  have HB := Lib.hid (Below.step BW ((Below.refl _ _).drew))
  clear BW z0 z1
  go_region_held3 (fun w' => w'.cell? ⟨w.heap.size, 0, none⟩ = some (.bool an) ∧ w'.cell? ⟨w.heap.size, 1, none⟩ = some (.slice A1 n1 n1) ∧ w'.cell? ⟨w.heap.size, 2, none⟩ = some (.int .i64 ae) ∧ w'.cell? ⟨w.heap.size + 1, 0, none⟩ = some (.bool bn) ∧ w'.cell? ⟨w.heap.size + 1, 1, none⟩ = some (.slice A2 n2 n2) ∧ w'.cell? ⟨w.heap.size + 1, 2, none⟩ = some (.int .i64 be))
    ((refine KB.cells (s := w.heap.size) ?_; with_reducible assumption))
    (first
      | (go_at_call_of 137 (Value.agg #[.bool an, .slice A1 n1 n1, .int .i64 ae])
         refine (top_as ta ((r1.on HB.out).arg (by omega)) (by omega) (by omega) (by omega) HTA).mono ?_
         rintro e w3 ⟨rfl, b3⟩
         have kb := kb.on b3
         have HB := Lib.hid (Below.step HB.out b3)
         clear b3)
      | (go_at_call_of 137 (Value.agg #[.bool bn, .slice A2 n2 n2, .int .i64 be])
         refine (top_as tb ((r2.on HB.out).arg (by omega)) (by omega) (by omega) (by omega) HTB).mono ?_
         rintro e w4 ⟨rfl, b4⟩
         have kb := kb.on b4
         have HB := Lib.hid (Below.step HB.out b4)
         clear b4)
      | (go_at_call 113
         refine (cmpInt_as _ HC.out _).mono ?_
         rintro e w5 ⟨rfl, rfl⟩))
  go_wp2_with fail
  go_ret
  exact ⟨rfl, HB.out⟩

set_option maxHeartbeats 4000000 in
theorem cs_near {A1 A2 : Option Addr} {n1 n2 ax bx : Nat} {an bn : Bool} {ae be : Int} {w : World} (r1 : Res w A1 n1 ax) (r2 : Res w A2 n2 bx) (s1 : n1 ≤ 128) (s2 : n2 ≤ 128)
    (a1 : blen ax ≤ 4096) (a2 : -8192 ≤ ae) (a3 : ae ≤ 12288) (b1 : blen bx ≤ 4096) (b2 : -8192 ≤ be) (b3 : be ≤ 12288) (ht : (blen ax : Int) - 1 + ae = (blen bx : Int) - 1 + be) {m : Int} {i j : Nat} (hm : min ae be = m) (hi : ae - m = (i : Int)) (hj : be - m = (j : Int)) (q : Int) (HQ : Hid (cmpI ((ax * 2 ^ i : Nat) : Int) ((bx * 2 ^ j : Nat) : Int) = q)) :
    Calls Tryz.prog 142 #[.agg #[.bool an, .slice A1 n1 n1, .int .i64 ae], .agg #[.bool bn, .slice A2 n2 n2, .int .i64 be]] w fun en w' => en = .returned (.int .i64 q) ∧ Below w.heap.size w w' := by
  have f1 : blen ax + i ≤ 16384 := by omega
  have f2 : blen bx + j ≤ 16384 := by omega
  obtain ⟨ta, hta⟩ : ∃ t, (blen ax : Int) - 1 + ae = t := ⟨_, rfl⟩
  obtain ⟨tb, htb⟩ : ∃ t, (blen bx : Int) - 1 + be = t := ⟨_, rfl⟩
  rw [hta, htb] at ht
  have HTA := Lib.hid hta
  have HTB := Lib.hid htb
  have HC : Hid (cmpI ta tb = 0) := by show cmpI ta tb = 0; rw [ht]; unfold cmpI; rw [if_neg (by omega), if_neg (by omega)]
  have HAL := Lib.hid (fun W (hW : Below w.heap.size w W) => aligned_ok (na := an) (nb := bn) ((r1.on hW).arg (by omega)) ((r2.on hW).arg (by omega)) (by omega) (by omega) (by omega) (by omega) (by omega) (by omega) m i j hm hi hj f1 f2)
  have hu1 := fit_n _ _ f1
  have hu2 := fit_n _ _ f2
  clear hta htb ht hm hi hj f1 f2
  go_enter Tryz.func142, Tryz.ntmps142
  go_wp2_with fail
  obtain ⟨W, hW, z0, z1, BW, sW⟩ := frame2 w 48 48 an A1 n1 n1 ae bn A2 n2 n2 be
  rw [hW]
  clear hW
  have kb : KB W.drew w.heap.size an A1 n1 ae bn A2 n2 be := KB.on ⟨z0, z1⟩ ((Below.refl _ _).drew)
  have HB := Lib.hid (Below.step BW ((Below.refl _ _).drew))
  clear BW z0 z1
  go_region_held3 (fun w' => w'.cell? ⟨w.heap.size, 0, none⟩ = some (.bool an) ∧ w'.cell? ⟨w.heap.size, 1, none⟩ = some (.slice A1 n1 n1) ∧ w'.cell? ⟨w.heap.size, 2, none⟩ = some (.int .i64 ae) ∧ w'.cell? ⟨w.heap.size + 1, 0, none⟩ = some (.bool bn) ∧ w'.cell? ⟨w.heap.size + 1, 1, none⟩ = some (.slice A2 n2 n2) ∧ w'.cell? ⟨w.heap.size + 1, 2, none⟩ = some (.int .i64 be))
    ((refine KB.cells (s := w.heap.size) ?_; with_reducible assumption))
    (first
      | (go_at_call_of 137 (Value.agg #[.bool an, .slice A1 n1 n1, .int .i64 ae])
         refine (top_as ta ((r1.on HB.out).arg (by omega)) (by omega) (by omega) (by omega) HTA).mono ?_
         rintro e w3 ⟨rfl, b3⟩
         have kb := kb.on b3
         have HB := Lib.hid (Below.step HB.out b3)
         clear b3)
      | (go_at_call_of 137 (Value.agg #[.bool bn, .slice A2 n2 n2, .int .i64 be])
         refine (top_as tb ((r2.on HB.out).arg (by omega)) (by omega) (by omega) (by omega) HTB).mono ?_
         rintro e w4 ⟨rfl, b4⟩
         have kb := kb.on b4
         have HB := Lib.hid (Below.step HB.out b4)
         clear b4)
      | (go_at_call 113
         refine (cmpInt_as _ HC.out _).mono ?_
         rintro e w5 ⟨rfl, rfl⟩))
  obtain ⟨p0, p1, p2, q0, q1, q2⟩ := kb.cells
  go_wp2_with fail
  refine (HAL.out _ HB.out).mono ?_
  rintro en w6 ⟨L1, u1, L2, u2, rfl, t1, t2, b⟩
  clear p0 p1 p2 q0 q1 q2
  have BW := Below.step HB.out b
  have hu1 := res_n_le t1 hu1
  have hu2 := res_n_le t2 hu2
  generalize ax * 2 ^ i = X at *
  generalize bx * 2 ^ j = Y at *
  clear b
  go_wp2_with fail
  refine (cmp_as q ((t1.on (below_lit _ _)).arg (by omega)) ((t2.on (below_lit _ _)).arg (by omega)) (by omega) (by omega) HQ.out).mono ?_
  rintro en w7 ⟨rfl, b⟩
  go_wp2_with fail
  go_ret
  exact ⟨rfl, Below.step (Below.step BW (below_lit _ _)) b⟩

theorem cs_any {A1 A2 : Option Addr} {n1 n2 ax bx : Nat} {an bn : Bool} {ae be : Int} {w : World} (r1 : Res w A1 n1 ax) (r2 : Res w A2 n2 bx) (s1 : n1 ≤ 128) (s2 : n2 ≤ 128)
    (a1 : blen ax ≤ 4096) (a2 : -8192 ≤ ae) (a3 : ae ≤ 12288) (b1 : blen bx ≤ 4096) (b2 : -8192 ≤ be) (b3 : be ≤ 12288) (hz : ax = 0 ↔ bx = 0) (az : ax = 0 → ae = 0) (bz : bx = 0 → be = 0) (q : Int) (hq : cmpI ((⟨an, ax, ae⟩ : D).ab : Int) ((⟨bn, bx, be⟩ : D).ab : Int) = q) :
    Calls Tryz.prog 142 #[.agg #[.bool an, .slice A1 n1 n1, .int .i64 ae], .agg #[.bool bn, .slice A2 n2 n2, .int .i64 be]] w fun en w' => en = .returned (.int .i64 q) ∧ Below w.heap.size w w' := by
  by_cases ht : (blen ax : Int) - 1 + ae = (blen bx : Int) - 1 + be
  · obtain ⟨m, hm⟩ : ∃ m, min ae be = m := ⟨_, rfl⟩
    obtain ⟨i, hi⟩ := Int.eq_ofNat_of_zero_le (show 0 ≤ ae - m by omega)
    obtain ⟨j, hj⟩ := Int.eq_ofNat_of_zero_le (show 0 ≤ be - m by omega)
    refine cs_near r1 r2 s1 s2 a1 a2 a3 b1 b2 b3 ht hm hi hj q ?_
    show _ = _
    rw [← hq, ab_at (m := m) (by omega) hi, ab_at (m := m) (by omega) hj]
    exact cmp_scale _ _ _
  · by_cases hx : ax = 0
    · have hy := hz.1 hx
      rw [hx, hy, az hx, bz hy] at ht
      exact (ht rfl).elim
    · have hy : bx ≠ 0 := fun e => hx (hz.2 e)
      have := cmp_tops (a := ⟨an, ax, ae⟩) (b := ⟨bn, bx, be⟩) (show -40000 ≤ ae by omega) (show -40000 ≤ be by omega) hx hy ht
      have h2 := cmpI_ne ht
      rw [this.trans hq] at h2
      exact cs_far r1 r2 s1 s2 a1 a2 a3 b1 b2 b3 q (this.trans hq) h2
end Go.Proofs.YtpachoeignpcbaaGreatDoor

namespace Go.Proofs.YtpachoeignpcbaaGreatDoor
open Go.RowKit
set_option linter.unusedVariables false

def cmpS (a b : D) : Int × Int := if a.may && b.may then (cmpI a.vl b.vl, 0) else (0, 3)
theorem cmpS_ok {a b : D} (ha : a.may = true) (hb : b.may = true) : cmpS a b = (cmpI a.vl b.vl, 0) := by unfold cmpS; rw [ha, hb]; rfl
theorem cmpS_err {a b : D} (h : a.may = false ∨ b.may = false) : cmpS a b = (0, 3) := by
  unfold cmpS
  rcases h with h | h <;> rw [h]
  · rfl
  · rw [Bool.and_false]; rfl
theorem sg_vl {d : D} (h : d.plain) : (sg d.neg d.x = -1 ∧ d.vl = -(d.ab : Int) ∧ 0 < d.ab) ∨ (sg d.neg d.x = 0 ∧ d.vl = 0 ∧ d.ab = 0 ∧ d.x = 0) ∨ (sg d.neg d.x = 1 ∧ d.vl = (d.ab : Int) ∧ 0 < d.ab) := by
  have hv := D.vl_ab d
  have h0 : d.x ≠ 0 → 0 < d.ab := fun hx => Nat.mul_pos (by omega) (Nat.two_pow_pos _)
  rcases h with ⟨h1, h2, h3⟩ | h1
  · refine .inr (.inl ⟨?_, ?_, ?_, h1⟩)
    · rw [h1, h2]; rfl
    · exact D.vl_zero.2 h1
    · unfold D.ab; rw [h1, Nat.zero_mul]
  · have hx : d.x ≠ 0 := by omega
    unfold sg
    cases hn : d.neg
    · rw [hn] at hv
      exact .inr (.inr ⟨by simp [hx], hv, h0 hx⟩)
    · rw [hn] at hv
      exact .inl ⟨by simp, hv, h0 hx⟩
theorem sg_cmp {a b : D} (ha : a.plain) (hb : b.plain) (h : sg a.neg a.x ≠ sg b.neg b.x) : cmpI (sg a.neg a.x) (sg b.neg b.x) = cmpI a.vl b.vl := by
  rcases sg_vl ha with ⟨a1, a2, a3⟩ | ⟨a1, a2, a3, _⟩ | ⟨a1, a2, a3⟩ <;> rcases sg_vl hb with ⟨b1, b2, b3⟩ | ⟨b1, b2, b3, _⟩ | ⟨b1, b2, b3⟩ <;> rw [a1, b1] at h ⊢ <;> rw [a2, b2] <;> first | exact (h rfl).elim | (unfold cmpI; first | (rw [if_pos (by omega), if_pos (by omega)]) | (rw [if_neg (by omega), if_pos (by omega), if_neg (by omega), if_pos (by omega)]))
theorem sg_same {a b : D} (ha : a.plain) (hb : b.plain) (h : sg a.neg a.x = sg b.neg b.x) : sg a.neg a.x * cmpI (a.ab : Int) (b.ab : Int) = cmpI a.vl b.vl := by
  rcases sg_vl ha with ⟨a1, a2, a3⟩ | ⟨a1, a2, a3, _⟩ | ⟨a1, a2, a3⟩ <;> rcases sg_vl hb with ⟨b1, b2, b3⟩ | ⟨b1, b2, b3, _⟩ | ⟨b1, b2, b3⟩ <;> rw [a1] at h ⊢ <;> rw [b1] at h <;> rw [a2, b2] <;> first | omega | skip
  · unfold cmpI
    rcases Int.lt_trichotomy (a.ab : Int) (b.ab : Int) with k | k | k
    · rw [if_pos k, if_neg (by omega), if_pos (by omega)]; rfl
    · rw [if_neg (by omega), if_neg (by omega), if_neg (by omega), if_neg (by omega)]; rfl
    · rw [if_neg (by omega), if_pos k, if_pos (by omega)]; rfl
  · rw [Int.zero_mul]; rfl
theorem sg_eq_zero {a b : D} (ha : a.plain) (hb : b.plain) (h : sg a.neg a.x = sg b.neg b.x) : a.x = 0 ↔ b.x = 0 := by
  have key : ∀ {d : D}, d.plain → (sg d.neg d.x = 0 ↔ d.x = 0) := fun {d} hd => by
    constructor
    · intro e
      rcases sg_vl hd with ⟨a1, _⟩ | ⟨_, _, _, a4⟩ | ⟨a1, _⟩
      · omega
      · exact a4
      · omega
    · intro e
      rcases hd with ⟨h1, h2, h3⟩ | h1
      · rw [h1, h2]; rfl
      · omega
  rw [← key ha, ← key hb, h]
theorem sign_as {A : Option Addr} {n c x : Nat} {neg : Bool} {e : Int} {w : World} (k : Int) (h : Res w A n x) (hn : n ≤ 1000000) (hk : Hid (sg neg x = k)) :
    Calls Tryz.prog 136 #[.agg #[.bool neg, .slice A n c, .int .i64 e]] w fun en w' => en = .returned (.int .i64 k) ∧ Below w.heap.size w w' := by
  have := sign_any (neg := neg) (e := e) (c := c) h hn
  rwa [hk.out] at this
theorem sg_bd (n : Bool) (x : Nat) : sg n x = -1 ∨ sg n x = 0 ∨ sg n x = 1 := by
  unfold sg
  cases n
  · by_cases h : x = 0 <;> simp [h]
  · simp

set_option maxHeartbeats 4000000 in
theorem cmp_err {A1 A2 : Option Addr} {n1 c1 n2 c2 x y : Nat} {na nb : Bool} {ea eb : Int} {w : World} (h1 : Arg w A1 n1 c1 x) (h2 : Arg w A2 n2 c2 y) (s1 : n1 ≤ 30000) (s2 : n2 ≤ 30000) (hT : Tab w) (hm : D.may ⟨na, x, ea⟩ = false ∨ D.may ⟨nb, y, eb⟩ = false) :
    Calls Tryz.prog 141 #[.agg #[.bool na, .slice A1 n1 c1, .int .i64 ea], .agg #[.bool nb, .slice A2 n2 c2, .int .i64 eb]] w (IntPost w (cmpS ⟨na, x, ea⟩ ⟨nb, y, eb⟩)) := by
  rw [cmpS_err hm]
  have HBP := Lib.hid (fun W (hW : Below w.heap.size w W) => both_err (h1.on hW) (h2.on hW) s1 s2 hm)
  clear hm
  go_enter Tryz.func141, Tryz.ntmps141
  go_wp2_with fail
  obtain ⟨W, hW, z0, z1, BW, sW⟩ := frame2 w 48 48 na A1 n1 c1 ea nb A2 n2 c2 eb
  rw [hW]
  clear hW
  refine (HBP.out W BW).mono ?_
  rintro en w1 ⟨rfl, b⟩
  have z0 := z0.on b
  have z1 := z1.on b
  have BW := Below.step BW b
  clear b HBP
  obtain ⟨p0, p1, p2, g0, g1, g2, _⟩ := z0.cells
  obtain ⟨q0, q1, q2, i0, i1, i2, _⟩ := z1.cells
  go_wp2_with fail
  go_ret2
  exact ⟨rfl, below_put3 (below_put3 BW (by omega) _ _ _) (by omega) _ _ _⟩

set_option maxHeartbeats 4000000 in
theorem cmp_signs {A1 A2 : Option Addr} {n1 c1 n2 c2 x y : Nat} {na nb : Bool} {ea eb : Int} {w : World} (h1 : Arg w A1 n1 c1 x) (h2 : Arg w A2 n2 c2 y) (s1 : n1 ≤ 30000) (s2 : n2 ≤ 30000) (hT : Tab w)
    (ma : D.may ⟨na, x, ea⟩ = true) (mb : D.may ⟨nb, y, eb⟩ = true) {an bn : Bool} {ax bx : Nat} {ae be : Int} (hpa : D.pl ⟨na, x, ea⟩ = ⟨an, ax, ae⟩) (hpb : D.pl ⟨nb, y, eb⟩ = ⟨bn, bx, be⟩) (hne : sg an ax ≠ sg bn bx) :
    Calls Tryz.prog 141 #[.agg #[.bool na, .slice A1 n1 c1, .int .i64 ea], .agg #[.bool nb, .slice A2 n2 c2, .int .i64 eb]] w (IntPost w (cmpS ⟨na, x, ea⟩ ⟨nb, y, eb⟩)) := by
  obtain ⟨a1, a2, a3, a4, a5⟩ := pl_bounds ma
  obtain ⟨b1, b2, b3, b4, b5⟩ := pl_bounds mb
  have HBP := Lib.hid (fun W (hW : Below w.heap.size w W) => both_plain (h1.on hW) (h2.on hW) s1 s2 (hT.on hW) ma mb)
  rw [hpa, hpb] at HBP
  rw [hpa] at a1 a2 a3 a4
  rw [hpb] at b1 b2 b3 b4
  simp only at a1 a2 a3 a4 b1 b2 b3 b4
  have hva := D.pl_vl (d := ⟨na, x, ea⟩) (by have := ((D.may_iff _).1 ma).2.1; omega)
  have hvb := D.pl_vl (d := ⟨nb, y, eb⟩) (by have := ((D.may_iff _).1 mb).2.1; omega)
  have ppa := D.pl_plain ⟨na, x, ea⟩
  have ppb := D.pl_plain ⟨nb, y, eb⟩
  rw [hpa] at hva ppa
  rw [hpb] at hvb ppb
  have hcm := sg_cmp ppa ppb hne
  have hq2 := cmpI_ne hne
  simp only at hcm
  rw [cmpS_ok ma mb, ← hva, ← hvb, ← hcm]
  obtain ⟨sa, hsa⟩ : ∃ s, sg an ax = s := ⟨_, rfl⟩
  obtain ⟨sb, hsb⟩ : ∃ s, sg bn bx = s := ⟨_, rfl⟩
  have HSA := Lib.hid hsa
  have HSB := Lib.hid hsb
  rw [hsa, hsb] at hq2 ⊢
  obtain ⟨q, hq⟩ : ∃ q, cmpI sa sb = q := ⟨_, rfl⟩
  rw [hq] at hq2 ⊢
  have HC := Lib.hid hq
  clear hq hsa hsb hcm hva hvb ppa ppb hne ma mb hpa hpb a5 b5
  go_enter Tryz.func141, Tryz.ntmps141
  go_wp2_with fail
  obtain ⟨W, hW, z0, z1, BW, sW⟩ := frame2 w 48 48 na A1 n1 c1 ea nb A2 n2 c2 eb
  rw [hW]
  clear hW
  refine (HBP.out W BW).mono ?_
  rintro en w1 ⟨P1, k1, P2, k2, rfl, r1, r2, b⟩
  have z0 := z0.on b
  have z1 := z1.on b
  have BW := Below.step BW b
  have sW : w.heap.size + 2 ≤ w1.heap.size := by have := b.size; omega
  clear b HBP
  obtain ⟨p0, p1, p2, g0, g1, g2, _⟩ := z0.cells
  obtain ⟨q0, q1, q2, i0, i1, i2, _⟩ := z1.cells
  have hk1 := res_n_le r1 (k := 128) a1
  have hk2 := res_n_le r2 (k := 128) b1
  go_wp2_with fail
  clear p0 p1 p2 g0 g1 g2 q0 q1 q2 i0 i1 i2
  obtain ⟨w2, e1, e2⟩ := put3_named w1 w.heap.size (.bool an) (.slice P1 k1 k1) (.int .i64 ae)
  have r1 := z0.res r1 (.bool an) (.slice P1 k1 k1) (.int .i64 ae)
  have r2 := z0.res r2 (.bool an) (.slice P1 k1 k1) (.int .i64 ae)
  have z1 := z1.other (s := w.heap.size) (by omega) (.bool an) (.slice P1 k1 k1) (.int .i64 ae)
  have z0 := z0.put_d an P1 k1 k1 ae
  have BW := below_put3 BW (Nat.le_refl _) (.bool an) (.slice P1 k1 k1) (.int .i64 ae)
  have sW : w.heap.size + 2 ≤ (put3 w1 w.heap.size (.bool an) (.slice P1 k1 k1) (.int .i64 ae)).heap.size := by rw [put3_size]; exact sW
  rw [e1]
  rw [e2] at r1 r2 z0 z1 BW sW
  clear e1 e2
  obtain ⟨w3, e1, e2⟩ := put3_named w2 (w.heap.size + 1) (.bool bn) (.slice P2 k2 k2) (.int .i64 be)
  have r1 := z1.res r1 (.bool bn) (.slice P2 k2 k2) (.int .i64 be)
  have r2 := z1.res r2 (.bool bn) (.slice P2 k2 k2) (.int .i64 be)
  have z0 := z0.other (s := w.heap.size + 1) (by omega) (.bool bn) (.slice P2 k2 k2) (.int .i64 be)
  have z1 := z1.put_d bn P2 k2 k2 be
  have BW := below_put3 BW (by omega : w.heap.size ≤ w.heap.size + 1) (.bool bn) (.slice P2 k2 k2) (.int .i64 be)
  have sW : w.heap.size + 2 ≤ (put3 w2 (w.heap.size + 1) (.bool bn) (.slice P2 k2 k2) (.int .i64 be)).heap.size := by rw [put3_size]; exact sW
  rw [e1]
  rw [e2] at r1 r2 z0 z1 BW sW
  clear e1 e2
  have kb : KB w3.drew w.heap.size an P1 k1 ae bn P2 k2 be := KB.on ⟨z0, z1⟩ ((Below.refl _ _).drew)
  have d3 : Below w3.heap.size w3 w3.drew := (Below.refl _ _).drew
  have HB := Lib.hid (Below.step BW d3)
  have R1 := Lib.hid (r1.on d3)
  have R2 := Lib.hid (r2.on d3)
  clear BW z0 z1 r1 r2 d3
  go_region_held3 (fun w' => w'.cell? ⟨w.heap.size, 0, none⟩ = some (.bool an) ∧ w'.cell? ⟨w.heap.size, 1, none⟩ = some (.slice P1 k1 k1) ∧ w'.cell? ⟨w.heap.size, 2, none⟩ = some (.int .i64 ae) ∧ w'.cell? ⟨w.heap.size + 1, 0, none⟩ = some (.bool bn) ∧ w'.cell? ⟨w.heap.size + 1, 1, none⟩ = some (.slice P2 k2 k2) ∧ w'.cell? ⟨w.heap.size + 1, 2, none⟩ = some (.int .i64 be))
    ((refine KB.cells (s := w.heap.size) ?_; with_reducible assumption))
    (first
      | (go_at_call_of 136 (Value.agg #[.bool an, .slice P1 k1 k1, .int .i64 ae])
         refine (sign_as sa R1.out (by omega) HSA).mono ?_
         rintro e w4 ⟨rfl, b4⟩
         have kb := kb.on b4
         have R1 := Lib.hid (R1.out.on b4)
         have R2 := Lib.hid (R2.out.on b4)
         have HB := Lib.hid (Below.step HB.out b4)
         clear b4)
      | (go_at_call_of 136 (Value.agg #[.bool bn, .slice P2 k2 k2, .int .i64 be])
         refine (sign_as sb R2.out (by omega) HSB).mono ?_
         rintro e w5 ⟨rfl, b5⟩
         have kb := kb.on b5
         have R1 := Lib.hid (R1.out.on b5)
         have R2 := Lib.hid (R2.out.on b5)
         have HB := Lib.hid (Below.step HB.out b5)
         clear b5)
      | (go_at_call 113
         refine (cmpInt_as _ HC.out _).mono ?_
         rintro e w6 ⟨rfl, rfl⟩))
  go_wp2_with fail
  go_ret2
  exact ⟨rfl, HB.out⟩

set_option maxHeartbeats 4000000 in
theorem cmp_sizes {A1 A2 : Option Addr} {n1 c1 n2 c2 x y : Nat} {na nb : Bool} {ea eb : Int} {w : World} (h1 : Arg w A1 n1 c1 x) (h2 : Arg w A2 n2 c2 y) (s1 : n1 ≤ 30000) (s2 : n2 ≤ 30000) (hT : Tab w)
    (ma : D.may ⟨na, x, ea⟩ = true) (mb : D.may ⟨nb, y, eb⟩ = true) {an bn : Bool} {ax bx : Nat} {ae be : Int} (hpa : D.pl ⟨na, x, ea⟩ = ⟨an, ax, ae⟩) (hpb : D.pl ⟨nb, y, eb⟩ = ⟨bn, bx, be⟩) (sa : Int) (HSA : Hid (sg an ax = sa)) (HSB : Hid (sg bn bx = sa)) (hsa : sa = -1 ∨ sa = 0 ∨ sa = 1) :
    Calls Tryz.prog 141 #[.agg #[.bool na, .slice A1 n1 c1, .int .i64 ea], .agg #[.bool nb, .slice A2 n2 c2, .int .i64 eb]] w (IntPost w (cmpS ⟨na, x, ea⟩ ⟨nb, y, eb⟩)) := by
  obtain ⟨a1, a2, a3, a4, a5⟩ := pl_bounds ma
  obtain ⟨b1, b2, b3, b4, b5⟩ := pl_bounds mb
  have HBP := Lib.hid (fun W (hW : Below w.heap.size w W) => both_plain (h1.on hW) (h2.on hW) s1 s2 (hT.on hW) ma mb)
  rw [hpa, hpb] at HBP
  rw [hpa] at a1 a2 a3 a4
  rw [hpb] at b1 b2 b3 b4
  simp only at a1 a2 a3 a4 b1 b2 b3 b4
  have hva := D.pl_vl (d := ⟨na, x, ea⟩) (by have := ((D.may_iff _).1 ma).2.1; omega)
  have hvb := D.pl_vl (d := ⟨nb, y, eb⟩) (by have := ((D.may_iff _).1 mb).2.1; omega)
  have ppa := D.pl_plain ⟨na, x, ea⟩
  have ppb := D.pl_plain ⟨nb, y, eb⟩
  rw [hpa] at hva ppa a5
  rw [hpb] at hvb ppb b5
  have hcm := sg_same ppa ppb (HSA.out.trans HSB.out.symm)
  have hz := sg_eq_zero ppa ppb (HSA.out.trans HSB.out.symm)
  simp only at hcm hz a5 b5
  have HZ := Lib.hid (And.intro hz (And.intro a5 b5))
  rw [HSA.out] at hcm
  rw [cmpS_ok ma mb, ← hva, ← hvb, ← hcm]
  obtain ⟨qb1, qb2⟩ := cmpI_bd ((⟨an, ax, ae⟩ : D).ab : Int) ((⟨bn, bx, be⟩ : D).ab : Int)
  obtain ⟨q, hq⟩ : ∃ q, cmpI ((⟨an, ax, ae⟩ : D).ab : Int) ((⟨bn, bx, be⟩ : D).ab : Int) = q := ⟨_, rfl⟩
  rw [hq] at qb1 qb2 ⊢
  have HQ := Lib.hid hq
  have HC : Hid (cmpI sa sa = 0) := by show cmpI sa sa = 0; unfold cmpI; rw [if_neg (by omega), if_neg (by omega)]
  clear hq hcm hva hvb ppa ppb hz ma mb hpa hpb a5 b5
  have HPR : Hid (IntKind.i64.wrap (sa * q) = sa * q) := by
    show IntKind.i64.wrap (sa * q) = sa * q
    refine IntWalk.i64_in _ ?_
    rcases hsa with rfl | rfl | rfl <;> omega
  have hq : -1 ≤ sa * q ∧ sa * q ≤ 1 := by rcases hsa with rfl | rfl | rfl <;> omega
  clear hsa
  go_enter Tryz.func141, Tryz.ntmps141
  go_wp2_with fail
  obtain ⟨W, hW, z0, z1, BW, sW⟩ := frame2 w 48 48 na A1 n1 c1 ea nb A2 n2 c2 eb
  rw [hW]
  clear hW
  refine (HBP.out W BW).mono ?_
  rintro en w1 ⟨P1, k1, P2, k2, rfl, r1, r2, b⟩
  have z0 := z0.on b
  have z1 := z1.on b
  have BW := Below.step BW b
  have sW : w.heap.size + 2 ≤ w1.heap.size := by have := b.size; omega
  clear b HBP
  obtain ⟨p0, p1, p2, g0, g1, g2, _⟩ := z0.cells
  obtain ⟨q0, q1, q2, i0, i1, i2, _⟩ := z1.cells
  have hk1 := res_n_le r1 (k := 128) a1
  have hk2 := res_n_le r2 (k := 128) b1
  go_wp2_with fail
  clear p0 p1 p2 g0 g1 g2 q0 q1 q2 i0 i1 i2
  obtain ⟨w2, e1, e2⟩ := put3_named w1 w.heap.size (.bool an) (.slice P1 k1 k1) (.int .i64 ae)
  have r1 := z0.res r1 (.bool an) (.slice P1 k1 k1) (.int .i64 ae)
  have r2 := z0.res r2 (.bool an) (.slice P1 k1 k1) (.int .i64 ae)
  have z1 := z1.other (s := w.heap.size) (by omega) (.bool an) (.slice P1 k1 k1) (.int .i64 ae)
  have z0 := z0.put_d an P1 k1 k1 ae
  have BW := below_put3 BW (Nat.le_refl _) (.bool an) (.slice P1 k1 k1) (.int .i64 ae)
  have sW : w.heap.size + 2 ≤ (put3 w1 w.heap.size (.bool an) (.slice P1 k1 k1) (.int .i64 ae)).heap.size := by rw [put3_size]; exact sW
  rw [e1]
  rw [e2] at r1 r2 z0 z1 BW sW
  clear e1 e2
  obtain ⟨w3, e1, e2⟩ := put3_named w2 (w.heap.size + 1) (.bool bn) (.slice P2 k2 k2) (.int .i64 be)
  have r1 := z1.res r1 (.bool bn) (.slice P2 k2 k2) (.int .i64 be)
  have r2 := z1.res r2 (.bool bn) (.slice P2 k2 k2) (.int .i64 be)
  have z0 := z0.other (s := w.heap.size + 1) (by omega) (.bool bn) (.slice P2 k2 k2) (.int .i64 be)
  have z1 := z1.put_d bn P2 k2 k2 be
  have BW := below_put3 BW (by omega : w.heap.size ≤ w.heap.size + 1) (.bool bn) (.slice P2 k2 k2) (.int .i64 be)
  have sW : w.heap.size + 2 ≤ (put3 w2 (w.heap.size + 1) (.bool bn) (.slice P2 k2 k2) (.int .i64 be)).heap.size := by rw [put3_size]; exact sW
  rw [e1]
  rw [e2] at r1 r2 z0 z1 BW sW
  clear e1 e2
  have kb : KB w3.drew w.heap.size an P1 k1 ae bn P2 k2 be := KB.on ⟨z0, z1⟩ ((Below.refl _ _).drew)
  have d3 : Below w3.heap.size w3 w3.drew := (Below.refl _ _).drew
  have HB := Lib.hid (Below.step BW d3)
  have R1 := Lib.hid (r1.on d3)
  have R2 := Lib.hid (r2.on d3)
  clear BW z0 z1 r1 r2 d3
  go_region_held3 (fun w' => w'.cell? ⟨w.heap.size, 0, none⟩ = some (.bool an) ∧ w'.cell? ⟨w.heap.size, 1, none⟩ = some (.slice P1 k1 k1) ∧ w'.cell? ⟨w.heap.size, 2, none⟩ = some (.int .i64 ae) ∧ w'.cell? ⟨w.heap.size + 1, 0, none⟩ = some (.bool bn) ∧ w'.cell? ⟨w.heap.size + 1, 1, none⟩ = some (.slice P2 k2 k2) ∧ w'.cell? ⟨w.heap.size + 1, 2, none⟩ = some (.int .i64 be))
    ((refine KB.cells (s := w.heap.size) ?_; with_reducible assumption))
    (first
      | (go_at_call_of 136 (Value.agg #[.bool an, .slice P1 k1 k1, .int .i64 ae])
         refine (sign_as sa R1.out (by omega) HSA).mono ?_
         rintro e w4 ⟨rfl, b4⟩
         have kb := kb.on b4
         have R1 := Lib.hid (R1.out.on b4)
         have R2 := Lib.hid (R2.out.on b4)
         have HB := Lib.hid (Below.step HB.out b4)
         clear b4)
      | (go_at_call_of 136 (Value.agg #[.bool bn, .slice P2 k2 k2, .int .i64 be])
         refine (sign_as sa R2.out (by omega) HSB).mono ?_
         rintro e w5 ⟨rfl, b5⟩
         have kb := kb.on b5
         have R1 := Lib.hid (R1.out.on b5)
         have R2 := Lib.hid (R2.out.on b5)
         have HB := Lib.hid (Below.step HB.out b5)
         clear b5)
      | (go_at_call 113
         refine (cmpInt_as _ HC.out _).mono ?_
         rintro e w6 ⟨rfl, rfl⟩))
  go_wp2_with fail
  have kb : KB w5.drew w.heap.size an P1 k1 ae bn P2 k2 be := kb.on ((Below.refl _ _).drew)
  have d5 : Below w5.heap.size w5 w5.drew := (Below.refl _ _).drew
  have HB := Lib.hid (Below.step HB.out d5)
  have R1 := Lib.hid (R1.out.on d5)
  have R2 := Lib.hid (R2.out.on d5)
  clear d5
  go_region_held3 (fun w' => w'.cell? ⟨w.heap.size, 0, none⟩ = some (.bool an) ∧ w'.cell? ⟨w.heap.size, 1, none⟩ = some (.slice P1 k1 k1) ∧ w'.cell? ⟨w.heap.size, 2, none⟩ = some (.int .i64 ae) ∧ w'.cell? ⟨w.heap.size + 1, 0, none⟩ = some (.bool bn) ∧ w'.cell? ⟨w.heap.size + 1, 1, none⟩ = some (.slice P2 k2 k2) ∧ w'.cell? ⟨w.heap.size + 1, 2, none⟩ = some (.int .i64 be))
    ((refine KB.cells (s := w.heap.size) ?_; with_reducible assumption))
    (first
      | (go_at_call_of 136 (Value.agg #[.bool an, .slice P1 k1 k1, .int .i64 ae])
         refine (sign_as sa R1.out (by omega) HSA).mono ?_
         rintro e w7 ⟨rfl, b7⟩
         have kb := kb.on b7
         have R1 := Lib.hid (R1.out.on b7)
         have R2 := Lib.hid (R2.out.on b7)
         have HB := Lib.hid (Below.step HB.out b7)
         clear b7)
      | (go_at_call 142
         refine (cs_any R1.out R2.out (by omega) (by omega) a1 a2 a3 b1 b2 b3 HZ.out.1 HZ.out.2.1 HZ.out.2.2 q HQ.out).mono ?_
         rintro e w8 ⟨rfl, b8⟩
         have kb := kb.on b8
         have HB := Lib.hid (Below.step HB.out b8)
         clear b8))
  go_wp2_with fail
  go_ret2
  exact ⟨ret2_int HPR.out rfl, HB.out⟩

theorem dcmp_any {A1 A2 : Option Addr} {n1 c1 n2 c2 x y : Nat} {na nb : Bool} {ea eb : Int} {w : World} (h1 : Arg w A1 n1 c1 x) (h2 : Arg w A2 n2 c2 y) (s1 : n1 ≤ 30000) (s2 : n2 ≤ 30000) (hT : Tab w) :
    Calls Tryz.prog 141 #[.agg #[.bool na, .slice A1 n1 c1, .int .i64 ea], .agg #[.bool nb, .slice A2 n2 c2, .int .i64 eb]] w (IntPost w (cmpS ⟨na, x, ea⟩ ⟨nb, y, eb⟩)) := by
  by_cases ma : D.may ⟨na, x, ea⟩ = true
  · by_cases mb : D.may ⟨nb, y, eb⟩ = true
    · obtain ⟨⟨an, ax, ae⟩, hpa⟩ : ∃ p, D.pl ⟨na, x, ea⟩ = p := ⟨_, rfl⟩
      obtain ⟨⟨bn, bx, be⟩, hpb⟩ : ∃ p, D.pl ⟨nb, y, eb⟩ = p := ⟨_, rfl⟩
      by_cases hne : sg an ax = sg bn bx
      · exact cmp_sizes h1 h2 s1 s2 hT ma mb hpa hpb _ rfl hne.symm (sg_bd _ _)
      · exact cmp_signs h1 h2 s1 s2 hT ma mb hpa hpb hne
    · exact cmp_err h1 h2 s1 s2 hT (.inr (by simpa using mb))
  · exact cmp_err h1 h2 s1 s2 hT (.inl (by simpa using ma))
end Go.Proofs.YtpachoeignpcbaaGreatDoor

namespace Go.Proofs.YtpachoeignpcbaaGreatDoor
set_option linter.unusedVariables false

/-- if it isn't 0: no bit below the place lo, none from the place hi on, no more than L bits. -/
def D.inn (lo hi : Int) (L : Nat) (d : D) : Prop := d.x ≠ 0 → lo ≤ d.e ∧ (blen d.x : Int) + d.e ≤ hi ∧ blen d.x ≤ L
theorem inn_may {lo hi : Int} {L : Nat} {d : D} (hp : d.plain) (h : d.inn lo hi L) (h1 : -8192 ≤ lo) (h2 : hi ≤ 8192) (h3 : L ≤ 4096) : d.may = true := by
  rw [D.may_iff]
  by_cases h0 : d.x = 0
  · rcases hp with ⟨_, _, he⟩ | hp
    · rw [h0, he, blen_zero]; omega
    · omega
  · obtain ⟨k1, k2, k3⟩ := h h0
    exact ⟨by omega, by omega, by omega⟩
theorem inn_more {lo hi lo' hi' : Int} {L L' : Nat} {d : D} (h : d.inn lo hi L) (h1 : lo' ≤ lo) (h2 : hi ≤ hi') (h3 : L ≤ L') : d.inn lo' hi' L' := fun h0 => by
  obtain ⟨k1, k2, k3⟩ := h h0
  exact ⟨by omega, by omega, by omega⟩
theorem inn_pl {lo hi : Int} {L : Nat} {d : D} (h : d.inn lo hi L) : d.pl.inn lo hi L := fun h0 => by
  by_cases hx : d.x = 0
  · rw [D.pl_zero hx] at h0; exact (h0 rfl).elim
  · obtain ⟨k1, k2, k3⟩ := h hx
    have h4 := blen_div_tz hx
    rw [D.pl_pos hx]
    exact ⟨by show lo ≤ d.e + (tz d.x : Int); omega, by show (blen (d.x / 2 ^ tz d.x) : Int) + (d.e + (tz d.x : Int)) ≤ hi; omega, by show blen (d.x / 2 ^ tz d.x) ≤ L; omega⟩
theorem inn_turn {lo hi : Int} {L : Nat} {d : D} (h : d.inn lo hi L) : d.turn.inn lo hi L := h
theorem inn_mul {lo hi lo' hi' : Int} {L L' : Nat} {a b : D} (ha : a.inn lo hi L) (hb : b.inn lo' hi' L') : (a.mul b).inn (lo + lo') (hi + hi') (L + L') := by
  refine inn_pl (fun h0 => ?_)
  have hx : a.x ≠ 0 := fun e => h0 (by show a.x * b.x = 0; rw [e, Nat.zero_mul])
  have hy : b.x ≠ 0 := fun e => h0 (by show a.x * b.x = 0; rw [e, Nat.mul_zero])
  obtain ⟨a1, a2, a3⟩ := ha hx
  obtain ⟨b1, b2, b3⟩ := hb hy
  have := blen_mul a.x b.x
  exact ⟨by show lo + lo' ≤ a.e + b.e; omega, by show (blen (a.x * b.x) : Int) + (a.e + b.e) ≤ hi + hi'; omega, by show blen (a.x * b.x) ≤ L + L'; omega⟩
theorem blen_sum_le {X Y h : Nat} (h1 : X < 2 ^ h) (h2 : Y < 2 ^ h) : blen (X + Y) ≤ h + 1 := (blen_le _ _).2 (by rw [Nat.pow_succ]; omega)
/-- a whole number that 2^l divides, below 2^h in size. -/
def InV (l h : Nat) (v : Int) : Prop := ((2 ^ l : Nat) : Int) ∣ v ∧ v.natAbs < 2 ^ h
theorem InV.add {l h : Nat} {u v : Int} (hu : InV l h u) (hv : InV l h v) : InV l (h + 1) (u + v) :=
  ⟨Int.dvd_add hu.1 hv.1, by have h1 := hu.2; have h2 := hv.2; have h3 := Int.natAbs_add_le u v; rw [Nat.pow_succ]; omega⟩
theorem InV.neg {l h : Nat} {v : Int} (hv : InV l h v) : InV l h (-v) := ⟨Int.dvd_neg.2 hv.1, by rw [Int.natAbs_neg]; exact hv.2⟩
theorem inV_of {lo hi : Int} {L : Nat} {d : D} (h : d.inn lo hi L) (h1 : -40000 ≤ lo) (h2 : lo ≤ hi) : InV (lo + 40000).toNat (hi + 40000).toNat d.vl := by
  by_cases h0 : d.x = 0
  · rw [D.vl_zero.2 h0]
    exact ⟨⟨0, by simp⟩, Nat.two_pow_pos _⟩
  · obtain ⟨k1, k2, k3⟩ := h h0
    refine ⟨?_, ?_⟩
    · rw [Int.ofNat_dvd_left, D.vl_natAbs]
      refine ⟨d.x * 2 ^ (d.e - lo).toNat, ?_⟩
      rw [show (d.e + 40000).toNat = (lo + 40000).toNat + (d.e - lo).toNat by omega, Nat.pow_add]
      ac_rfl
    · rw [D.vl_natAbs]
      have h3 := (blen_le d.x (blen d.x)).1 (Nat.le_refl _)
      have h4 : d.x * 2 ^ (d.e + 40000).toNat < 2 ^ blen d.x * 2 ^ (d.e + 40000).toNat := Nat.mul_lt_mul_of_pos_right h3 (Nat.two_pow_pos _)
      rw [← Nat.pow_add] at h4
      exact Nat.lt_of_lt_of_le h4 (Nat.pow_le_pow_right (by omega) (by omega))
theorem inn_of {l h : Nat} {d : D} (hp : d.plain) (he : -40000 ≤ d.e) (hv : InV l h d.vl) : d.inn ((l : Int) - 40000) ((h : Int) - 40000) (h - l) := fun h0 => by
  have hx : d.x % 2 = 1 := by
    rcases hp with ⟨h1, _⟩ | h1
    · exact (h0 h1).elim
    · exact h1
  obtain ⟨v1, v2⟩ := hv
  rw [D.vl_natAbs] at v2
  rw [Int.ofNat_dvd_left, D.vl_natAbs] at v1
  generalize hk : (d.e + 40000).toNat = k at *
  have hc : Ctz (d.x * 2 ^ k) k := ⟨Nat.mul_ne_zero h0 (Nat.ne_of_gt (Nat.two_pow_pos _)), d.x / 2, by rw [Nat.mul_comm]; congr 1; omega⟩
  have hl : ¬ k < l := fun e => (hc.mod l).1 e (Nat.mod_eq_zero_of_dvd v1)
  have hb := blen_shift h0 k
  have hb2 := (blen_le _ h).2 v2
  exact ⟨by omega, by omega, by omega⟩
theorem inn_add {lo hi : Int} {L L' : Nat} {a b : D} (ha : a.inn lo hi L) (hb : b.inn lo hi L') (h1 : -40000 ≤ lo) (hl : lo ≤ hi) (ea : -40000 ≤ a.e) (eb : -40000 ≤ b.e) : (a.add b).inn lo (hi + 1) (hi + 1 - lo).toNat := by
  have h2 := (inV_of ha h1 hl).add (inV_of hb h1 hl)
  rw [← D.add_vl ea eb] at h2
  exact inn_more (inn_of (D.add_plain a b) (D.add_low ea eb (by omega)) h2) (by omega) (by omega) (by omega)

theorem addS_to {lo hi hi' : Int} {L L' : Nat} {a b : D} (K : Nat) (ma : a.may = true) (mb : b.may = true) (ha : a.inn lo hi L) (hb : b.inn lo hi L') (h1 : -8192 ≤ lo) (hl : lo ≤ hi) (he : hi + 1 = hi') (h2 : hi' ≤ 8192) (h3 : hi' - lo = (K : Int)) (h4 : K ≤ 4096) : addS a b = (a.add b, 0) ∧ (a.add b).may = true ∧ (a.add b).inn lo hi' K := by
  have ea := ((D.may_iff a).1 ma).2.1
  have eb := ((D.may_iff b).1 mb).2.1
  have h5 : (a.add b).inn lo hi' K := inn_more (inn_add ha hb (by omega) hl (by omega) (by omega)) (Int.le_refl _) (by omega) (by omega)
  have h6 := inn_may (D.add_plain a b) h5 h1 h2 h4
  exact ⟨by rw [addS_ok ma mb, tld_ok h6], h6, h5⟩
theorem addS_in {lo hi : Int} {L L' : Nat} {a b : D} (ma : a.may = true) (mb : b.may = true) (ha : a.inn lo hi L) (hb : b.inn lo hi L') (h1 : -8192 ≤ lo) (hl : lo ≤ hi) (h2 : hi + 1 ≤ 8192) (h3 : hi + 1 - lo ≤ 4096) : addS a b = (a.add b, 0) ∧ (a.add b).may = true ∧ (a.add b).inn lo (hi + 1) (hi + 1 - lo).toNat := by
  have ea := ((D.may_iff a).1 ma).2.1
  have eb := ((D.may_iff b).1 mb).2.1
  have h4 := inn_add ha hb (by omega) hl (by omega) (by omega)
  have h5 := inn_may (D.add_plain a b) h4 h1 h2 (by omega)
  exact ⟨by rw [addS_ok ma mb, tld_ok h5], h5, h4⟩
theorem mulS_in {lo hi lo' hi' : Int} {L L' : Nat} {a b : D} (ma : a.may = true) (mb : b.may = true) (ha : a.inn lo hi L) (hb : b.inn lo' hi' L') (h1 : -8192 ≤ lo + lo') (h2 : hi + hi' ≤ 8192) (h3 : L + L' ≤ 4096) : mulS a b = (a.mul b, 0) ∧ (a.mul b).may = true ∧ (a.mul b).inn (lo + lo') (hi + hi') (L + L') := by
  have h4 := inn_mul ha hb
  have h5 := inn_may (D.mul_plain a b) h4 h1 h2 h3
  exact ⟨by rw [mulS_ok ma mb, tld_ok h5], h5, h4⟩
theorem small_in {d : D} (h1 : blen d.x ≤ 640) (h2 : -1000 ≤ d.e) (h3 : d.e ≤ 1000) : d.may = true ∧ d.inn (-1000) 1640 640 :=
  ⟨(D.may_iff d).2 ⟨by omega, by omega, by omega⟩, fun _ => ⟨h2, by omega, h1⟩⟩
end Go.Proofs.YtpachoeignpcbaaGreatDoor

namespace Go.Proofs.YtpachoeignpcbaaGreatDoor
open Go.RowKit
set_option linter.unusedVariables false

theorem dadd_as {A1 A2 : Option Addr} {n1 c1 n2 c2 x y : Nat} {na nb : Bool} {ea eb : Int} {w : World} (h1 : Arg w A1 n1 c1 x) (h2 : Arg w A2 n2 c2 y) (s1 : n1 ≤ 30000) (s2 : n2 ≤ 30000) (hT : Tab w) {rn : Bool} {rx : Nat} {re err : Int} (hr : addS ⟨na, x, ea⟩ ⟨nb, y, eb⟩ = (⟨rn, rx, re⟩, err)) :
    Calls Tryz.prog 44 #[.agg #[.bool na, .slice A1 n1 c1, .int .i64 ea], .agg #[.bool nb, .slice A2 n2 c2, .int .i64 eb]] w (DPx w rn rx re err) := by
  have := dadd_any (na := na) (nb := nb) (ea := ea) (eb := eb) h1 h2 s1 s2 hT
  rw [hr] at this
  exact this
theorem dmul_as {A1 A2 : Option Addr} {n1 c1 n2 c2 x y : Nat} {na nb : Bool} {ea eb : Int} {w : World} (h1 : Arg w A1 n1 c1 x) (h2 : Arg w A2 n2 c2 y) (s1 : n1 ≤ 30000) (s2 : n2 ≤ 30000) (hT : Tab w) {rn : Bool} {rx : Nat} {re err : Int} (hr : mulS ⟨na, x, ea⟩ ⟨nb, y, eb⟩ = (⟨rn, rx, re⟩, err)) :
    Calls Tryz.prog 52 #[.agg #[.bool na, .slice A1 n1 c1, .int .i64 ea], .agg #[.bool nb, .slice A2 n2 c2, .int .i64 eb]] w (DPx w rn rx re err) := by
  have := dmul_any (na := na) (nb := nb) (ea := ea) (eb := eb) h1 h2 s1 s2 hT
  rw [hr] at this
  exact this
theorem dcmp_as {A1 A2 : Option Addr} {n1 c1 n2 c2 x y : Nat} {na nb : Bool} {ea eb : Int} {w : World} (h1 : Arg w A1 n1 c1 x) (h2 : Arg w A2 n2 c2 y) (s1 : n1 ≤ 30000) (s2 : n2 ≤ 30000) (hT : Tab w) {q err : Int} (hr : cmpS ⟨na, x, ea⟩ ⟨nb, y, eb⟩ = (q, err)) :
    Calls Tryz.prog 141 #[.agg #[.bool na, .slice A1 n1 c1, .int .i64 ea], .agg #[.bool nb, .slice A2 n2 c2, .int .i64 eb]] w fun en w' => en = .returned (.tuple #[.int .i64 q, .int .i64 err]) ∧ Below w.heap.size w w' := by
  have := dcmp_any (na := na) (nb := nb) (ea := ea) (eb := eb) h1 h2 s1 s2 hT
  rw [hr] at this
  exact this
theorem dplain_as {A : Option Addr} {n c x : Nat} {neg : Bool} {e : Int} {w : World} (h : Arg w A n c x) (hs : n ≤ 30000) (hT : Tab w) {rn : Bool} {rx : Nat} {re err : Int} (hr : plainS ⟨neg, x, e⟩ = (⟨rn, rx, re⟩, err)) :
    Calls Tryz.prog 87 #[.agg #[.bool neg, .slice A n c, .int .i64 e]] w (DPx w rn rx re err) := by
  have := dplain_any (neg := neg) (e := e) h hs hT
  rw [hr] at this
  exact this
theorem dtop_as {A : Option Addr} {n c x : Nat} {neg : Bool} {e : Int} {w : World} (h : Arg w A n c x) (hs : n ≤ 30000) (hT : Tab w) {q err : Int} (hr : topS ⟨neg, x, e⟩ = (q, err)) :
    Calls Tryz.prog 118 #[.agg #[.bool neg, .slice A n c, .int .i64 e]] w fun en w' => en = .returned (.tuple #[.int .i64 q, .int .i64 err]) ∧ Below w.heap.size w w' := by
  have := dtop_any (neg := neg) (e := e) h hs hT
  rw [hr] at this
  exact this
def FlX (w : World) (rn : Bool) (rx : Nat) (re : Int) (bl : Bool) (err : Int) (e : Ending) (w' : World) : Prop := ∃ A n, e = .returned (.tuple #[.agg #[.bool rn, .slice A n n, .int .i64 re], .bool bl, .int .i64 err]) ∧ Res w' A n rx ∧ Below w.heap.size w w'
theorem dfloor_as {A : Option Addr} {n c x : Nat} {neg : Bool} {e : Int} {w : World} (h : Arg w A n c x) (hs : n ≤ 30000) (hT : Tab w) {at_ : Int} {rn : Bool} {rx : Nat} {re : Int} {bl : Bool} {err : Int} (hr : floorS ⟨neg, x, e⟩ at_ = (⟨rn, rx, re⟩, bl, err)) :
    Calls Tryz.prog 119 #[.agg #[.bool neg, .slice A n c, .int .i64 e], .int .i64 at_] w (FlX w rn rx re bl err) := by
  have := dfloor_any (neg := neg) (e := e) (at_ := at_) h hs hT
  rw [hr] at this
  exact this
def PlX (w : World) (rn : Bool) (rx : Nat) (re : Int) (e : Ending) (w' : World) : Prop := ∃ A n, e = .returned (.agg #[.bool rn, .slice A n n, .int .i64 re]) ∧ Res w' A n rx ∧ Below w.heap.size w w'
set_option maxHeartbeats 1000000 in
theorem dsame_as {A1 A2 : Option Addr} {n1 c1 n2 c2 x y : Nat} {na nb : Bool} {ea eb : Int} {w : World} (h1 : Arg w A1 n1 c1 x) (h2 : Arg w A2 n2 c2 y) (s1 : n1 ≤ 30000) (s2 : n2 ≤ 30000) (hT : Tab w) {q err : Int} (hr : cmpS ⟨na, x, ea⟩ ⟨nb, y, eb⟩ = (q, err)) (b : Bool) (hb : ((q == 0) && (err == 0)) = b) :
    Calls Tryz.prog 138 #[.agg #[.bool na, .slice A1 n1 c1, .int .i64 ea], .agg #[.bool nb, .slice A2 n2 c2, .int .i64 eb]] w fun en w' => en = .returned (.bool b) ∧ Below w.heap.size w w' := by
  have HC := Lib.hid (fun W (hW : Below w.heap.size w W) => dcmp_as (na := na) (nb := nb) (ea := ea) (eb := eb) (h1.on hW) (h2.on hW) s1 s2 (hT.on hW) hr)
  clear hr
  by_cases hq : q = 0
  · subst hq
    by_cases he : err = 0
    · subst he
      obtain rfl : b = true := by rw [← hb]; rfl
      clear hb
      go_enter Tryz.func138, Tryz.ntmps138
      go_wp2_with fail
      obtain ⟨W, hW, z0, z1, BW, sW⟩ := frame2 w 48 48 na A1 n1 c1 ea nb A2 n2 c2 eb
      rw [hW]
      clear hW
      refine (HC.out W BW).mono ?_
      rintro en w1 ⟨rfl, b⟩
      go_wp2_with fail
      go_ret
      exact ⟨rfl, Below.step BW b⟩
    · have he' : (err == 0) = false := by simpa using he
      obtain rfl : b = false := by rw [← hb, he']; rfl
      clear hb
      go_enter Tryz.func138, Tryz.ntmps138
      go_wp2_with fail
      obtain ⟨W, hW, z0, z1, BW, sW⟩ := frame2 w 48 48 na A1 n1 c1 ea nb A2 n2 c2 eb
      rw [hW]
      clear hW
      refine (HC.out W BW).mono ?_
      rintro en w1 ⟨rfl, b⟩
      go_wp2_with fail
      go_ret
      exact ⟨rfl, Below.step BW b⟩
  · have hq' : (q == 0) = false := by simpa using hq
    obtain rfl : b = false := by rw [← hb, hq']; rfl
    clear hb
    go_enter Tryz.func138, Tryz.ntmps138
    go_wp2_with fail
    obtain ⟨W, hW, z0, z1, BW, sW⟩ := frame2 w 48 48 na A1 n1 c1 ea nb A2 n2 c2 eb
    rw [hW]
    clear hW
    refine (HC.out W BW).mono ?_
    rintro en w1 ⟨rfl, b⟩
    go_wp2_with fail
    go_ret
    exact ⟨rfl, Below.step BW b⟩
theorem cmpI_zero {x y : Int} : cmpI x y = 0 ↔ x = y := by
  unfold cmpI
  constructor
  · intro h
    split at h
    · omega
    · split at h <;> omega
  · intro h; rw [if_neg (by omega), if_neg (by omega)]
/-- the same number is told to be the same; another is not. -/
theorem dsame_vl {A1 A2 : Option Addr} {n1 c1 n2 c2 x y : Nat} {na nb : Bool} {ea eb : Int} {w : World} (h1 : Arg w A1 n1 c1 x) (h2 : Arg w A2 n2 c2 y) (s1 : n1 ≤ 30000) (s2 : n2 ≤ 30000) (hT : Tab w) (ma : D.may ⟨na, x, ea⟩ = true) (mb : D.may ⟨nb, y, eb⟩ = true) (b : Bool) (hb : decide (D.vl ⟨na, x, ea⟩ = D.vl ⟨nb, y, eb⟩) = b) :
    Calls Tryz.prog 138 #[.agg #[.bool na, .slice A1 n1 c1, .int .i64 ea], .agg #[.bool nb, .slice A2 n2 c2, .int .i64 eb]] w fun en w' => en = .returned (.bool b) ∧ Below w.heap.size w w' := by
  refine dsame_as h1 h2 s1 s2 hT (cmpS_ok ma mb) b ?_
  rw [← hb, Bool.eq_iff_iff]
  simp [cmpI_zero]

theorem dsame_eq {A1 A2 : Option Addr} {n1 c1 n2 c2 x y : Nat} {na nb : Bool} {ea eb : Int} {w : World} (h1 : Arg w A1 n1 c1 x) (h2 : Arg w A2 n2 c2 y) (s1 : n1 ≤ 30000) (s2 : n2 ≤ 30000) (hT : Tab w) (ma : D.may ⟨na, x, ea⟩ = true) (hb : (⟨na, x, ea⟩ : D) = ⟨nb, y, eb⟩) :
    Calls Tryz.prog 138 #[.agg #[.bool na, .slice A1 n1 c1, .int .i64 ea], .agg #[.bool nb, .slice A2 n2 c2, .int .i64 eb]] w fun en w' => en = .returned (.bool true) ∧ Below w.heap.size w w' :=
  dsame_vl h1 h2 s1 s2 hT ma (hb ▸ ma) true (decide_eq_true (congrArg D.vl hb))

theorem lit_arg_at (w : World) {s : Nat} (hs : w.heap.size = s) (t : TypeId) (cs : List Nat) (n x : Nat) (hd : Dg cs) (hn : cs.length = n) (hn2 : n ≤ 1000) (hx : val cs = x) : Arg (w.alloc (.cells (U cs).toArray t)) (some ⟨s, 0, none⟩) n n x := by
  subst hs; exact lit_arg w t cs n x hd hn hn2 hx
theorem lit_res_at (w : World) {s : Nat} (hs : w.heap.size = s) (t : TypeId) (cs : List Nat) (n x : Nat) (hc : Canon cs) (hn : cs.length = n) (hx : val cs = x) : Res (w.alloc (.cells (U cs).toArray t)) (some ⟨s, 0, none⟩) n x := by
  subst hs; exact lit_res w t cs n x hc hn hx
theorem size_lit (w : World) (o : Obj) {s : Nat} (hs : w.heap.size = s) : (w.alloc o).heap.size = s + 1 := by
  subst hs; simp

/-- a plain form, reckoned. -/
theorem pl_eval (n : Bool) (k q : Nat) {x : Nat} {e e' : Int} (hx : x = 2 ^ k * q) (hq : q % 2 = 1) (he : e' = e + (k : Int)) : D.pl ⟨n, x, e⟩ = ⟨n, q, e'⟩ := by
  subst hx he
  have h0 : 2 ^ k * q ≠ 0 := Nat.mul_ne_zero (Nat.ne_of_gt (Nat.two_pow_pos _)) (by omega)
  rw [D.pl_pos (d := ⟨n, 2 ^ k * q, e⟩) h0]
  show (⟨n, 2 ^ k * q / 2 ^ tz (2 ^ k * q), e + (tz (2 ^ k * q) : Int)⟩ : D) = _
  rw [tz_shift hq, Nat.mul_div_cancel_left _ (Nat.two_pow_pos k)]
theorem may_small {d : D} (h1 : d.x < 18446744073709551616) (h2 : -8192 ≤ d.e) (h3 : d.e ≤ 8192) : d.may = true :=
  (D.may_iff d).2 ⟨Nat.le_trans ((blen_le d.x 64).2 (by omega)) (by omega), h2, h3⟩
end Go.Proofs.YtpachoeignpcbaaGreatDoor
