
/-
  The walk of dyad's Floor.
-/
import Derived.Test.YthaehfdjldjdiaaDoorDe
namespace Go.Proofs.YthaehfdjldjdiaaDoor
open Go.RowKit
set_option linter.unusedVariables false

def floorS (a : D) (at_ : Int) : D × Bool × Int :=
  if a.may then (if plB at_ then (if at_ ≤ a.e then (a.pl, false, 0) else (D.pl ⟨a.neg, a.x / 2 ^ (at_ - a.e).toNat, at_⟩, decide (a.x % 2 ^ (at_ - a.e).toNat ≠ 0), 0)) else (⟨false, 0, 0⟩, false, 1)) else (⟨false, 0, 0⟩, false, 3)
def FlPost (w : World) (r : D × Bool × Int) (e : Ending) (w' : World) : Prop := ∃ A n, e = .returned (.tuple #[.agg #[.bool r.1.neg, .slice A n n, .int .i64 r.1.e], .bool r.2.1, .int .i64 r.2.2]) ∧ Res w' A n r.1.x ∧ Below w.heap.size w w'
theorem floorS_err {a : D} (at_ : Int) (h : a.may = false) : floorS a at_ = (⟨false, 0, 0⟩, false, 3) := by unfold floorS; rw [h]; rfl
theorem floorS_arg {a : D} {at_ : Int} (h : a.may = true) (hp : plB at_ = false) : floorS a at_ = (⟨false, 0, 0⟩, false, 1) := by unfold floorS; rw [h, hp]; rfl

theorem div_pow_split (x t k : Nat) (h : t ≤ k) : x / 2 ^ k = x / 2 ^ t / 2 ^ (k - t) := by
  rw [Nat.div_div_eq_div_mul, ← Nat.pow_add]; congr 2; omega
theorem tz_shift {q : Nat} (hq : q % 2 = 1) (r : Nat) : tz (2 ^ r * q) = r := by
  have : Ctz (2 ^ r * q) r := ⟨Nat.mul_ne_zero (Nat.ne_of_gt (Nat.two_pow_pos _)) (by omega), q / 2, by congr 1; omega⟩
  exact this.eq_tz.symm
/-- what is shifted to the right no farther than its bits 0 go is the same number. -/
theorem pl_right_exact {n : Bool} {x k : Nat} {e : Int} (hx : x ≠ 0) (hk : k ≤ tz x) : (⟨n, x / 2 ^ k, e + k⟩ : D).pl = (⟨n, x, e⟩ : D).pl ∧ x % 2 ^ k = 0 := by
  obtain ⟨_, h2, h3⟩ := tz_blen hx
  have e1 : x = 2 ^ k * (2 ^ (tz x - k) * (x / 2 ^ tz x)) := by
    rw [← Nat.mul_assoc, ← Nat.pow_add, show k + (tz x - k) = tz x by omega]; exact h2
  have e2 : x / 2 ^ k = 2 ^ (tz x - k) * (x / 2 ^ tz x) := by
    have := Nat.mul_div_cancel_left (2 ^ (tz x - k) * (x / 2 ^ tz x)) (Nat.two_pow_pos k)
    rw [← e1] at this
    exact this
  have e3 := tz_shift h3 (tz x - k)
  rw [← e2] at e3
  have e4 : x / 2 ^ k ≠ 0 := by
    rw [e2]; exact Nat.mul_ne_zero (Nat.ne_of_gt (Nat.two_pow_pos _)) (by omega)
  refine ⟨?_, ?_⟩
  · rw [D.pl_pos (d := ⟨n, x, e⟩) hx, D.pl_pos (d := ⟨n, x / 2 ^ k, e + k⟩) e4]
    show (⟨n, x / 2 ^ k / 2 ^ tz (x / 2 ^ k), e + k + (tz (x / 2 ^ k) : Int)⟩ : D) = ⟨n, x / 2 ^ tz x, e + (tz x : Int)⟩
    rw [e3, ← div_pow_split x k (tz x) hk]
    congr 1
    omega
  · rw [e1]; exact Nat.mul_mod_right _ _
theorem floor_pl {a : D} {at_ : Int} (h : a.may = true) (hp : plB at_ = true) :
    (at_ ≤ a.pl.e → floorS a at_ = (a.pl, false, 0)) ∧ (a.pl.e < at_ → floorS a at_ = (D.pl ⟨a.pl.neg, a.pl.x / 2 ^ (at_ - a.pl.e).toNat, at_⟩, decide (a.pl.x % 2 ^ (at_ - a.pl.e).toNat ≠ 0), 0)) := by
  obtain ⟨an, ax, ae⟩ := a
  unfold floorS
  rw [h, hp, if_pos rfl, if_pos rfl]
  simp only
  by_cases h0 : ax = 0
  · subst h0
    rw [D.pl_zero (d := ⟨an, 0, ae⟩) rfl]
    simp only [Nat.zero_div, Nat.zero_mod]
    refine ⟨fun _ => ?_, fun _ => ?_⟩
    · split
      · rfl
      · rw [D.pl_zero (d := ⟨an, 0, at_⟩) rfl]; rfl
    · split
      · rw [D.pl_zero (d := ⟨false, 0, at_⟩) rfl]; rfl
      · rw [D.pl_zero (d := ⟨an, 0, at_⟩) rfl, D.pl_zero (d := ⟨false, 0, at_⟩) rfl]; simp
  · have hpl := D.pl_pos (d := ⟨an, ax, ae⟩) h0
    simp only at hpl
    obtain ⟨t1, t2, t3⟩ := tz_blen h0
    constructor
    · intro hle
      rw [hpl] at hle
      simp only at hle
      by_cases hc : at_ ≤ ae
      · rw [if_pos hc]
      · rw [if_neg hc]
        obtain ⟨k, hk⟩ := Int.eq_ofNat_of_zero_le (show 0 ≤ at_ - ae by omega)
        obtain ⟨r1, r2⟩ := pl_right_exact (n := an) (e := ae) h0 (k := k) (by omega)
        rw [hk, Int.toNat_natCast, r2, show at_ = ae + (k : Int) by omega, r1]
        rfl
    · intro hlt
      rw [hpl] at hlt ⊢
      simp only at hlt ⊢
      have hc : ¬ at_ ≤ ae := by omega
      rw [if_neg hc, show (at_ - ae).toNat = (at_ - (ae + (tz ax : Int))).toNat + tz ax by omega]
      generalize hk : (at_ - (ae + (tz ax : Int))).toNat = k
      have hk0 : 0 < k := by omega
      rw [div_pow_split ax (tz ax) (k + tz ax) (by omega), Nat.add_sub_cancel]
      have e1 : decide (ax % 2 ^ (k + tz ax) ≠ 0) = true := by
        refine decide_eq_true ?_
        exact ((tz_ctz ax h0).mod (k + tz ax)).1 (by omega)
      have e2 : decide (ax / 2 ^ tz ax % 2 ^ k ≠ 0) = true := by
        refine decide_eq_true (fun e => ?_)
        obtain ⟨k', rfl⟩ : ∃ k', k = k' + 1 := ⟨k - 1, by omega⟩
        have := Nat.mod_mod_of_dvd (ax / 2 ^ tz ax) (show 2 ∣ 2 ^ (k' + 1) from ⟨2 ^ k', by rw [Nat.pow_succ, Nat.mul_comm]⟩)
        rw [e] at this
        omega
      rw [e1, e2]

set_option maxHeartbeats 1000000 in
theorem floor_err {A : Option Addr} {n c x : Nat} {neg : Bool} {e at_ : Int} {w : World} (h : Arg w A n c x) (hs : n ≤ 30000) (hT : Tab w) (HM : Hid (D.may ⟨neg, x, e⟩ = false)) :
    Calls Tryd.prog 24 #[.agg #[.bool neg, .slice A n c, .int .i64 e], .int .i64 at_] w (FlPost w (floorS ⟨neg, x, e⟩ at_)) := by
  rw [floorS_err _ HM.out]
  go_enter Tryd.func24, Tryd.ntmps24
  go_wp2_with fail
  obtain ⟨W, hW, z0, z1, BW, sW⟩ := frame2 w 25 25 neg A n c e false none 0 0 0
  rw [hW]
  clear hW
  refine (may_as false (h.on BW) (by omega) HM.out).mono ?_
  rintro en w1 ⟨rfl, b⟩
  have z0 := z0.on b
  have z1 := z1.on b
  have BW := Below.step BW b
  clear b
  obtain ⟨p0, p1, p2, g0, g1, g2, _⟩ := z1.cells
  go_wp2_with fail
  refine bodyPost_ret (v := .tuple #[.agg #[.bool false, .slice none 0 0, .int .i64 0], .bool false, .int .i64 3]) (by simp [results, Tryd.results24, go_sem, p0, p1, p2]) rfl ?_
  exact ⟨none, 0, rfl, Res.none_ _, below_put3 BW (by omega) _ _ _⟩

set_option maxHeartbeats 1000000 in
theorem floor_arg {A : Option Addr} {n c x : Nat} {neg : Bool} {e at_ : Int} {w : World} (h : Arg w A n c x) (hs : n ≤ 30000) (hT : Tab w) (HM : Hid (D.may ⟨neg, x, e⟩ = true)) (hp : plB at_ = false) :
    Calls Tryd.prog 24 #[.agg #[.bool neg, .slice A n c, .int .i64 e], .int .i64 at_] w (FlPost w (floorS ⟨neg, x, e⟩ at_)) := by
  rw [floorS_arg HM.out hp]
  have HPB := Lib.hid (fun W => isPlace_any at_ W)
  rw [hp] at HPB
  go_enter Tryd.func24, Tryd.ntmps24
  go_wp2_with fail
  obtain ⟨W, hW, z0, z1, BW, sW⟩ := frame2 w 25 25 neg A n c e false none 0 0 0
  rw [hW]
  clear hW
  refine (may_as true (h.on BW) (by omega) HM.out).mono ?_
  rintro en w1 ⟨rfl, b⟩
  have z0 := z0.on b
  have z1 := z1.on b
  have BW := Below.step BW b
  clear b
  go_wp2_with fail
  refine (HPB.out _).mono ?_
  rintro en w' ⟨rfl, rfl⟩
  obtain ⟨p0, p1, p2, g0, g1, g2, _⟩ := z1.cells
  go_wp2_with fail
  refine bodyPost_ret (v := .tuple #[.agg #[.bool false, .slice none 0 0, .int .i64 0], .bool false, .int .i64 1]) (by simp [results, Tryd.results24, go_sem, p0, p1, p2]) rfl ?_
  exact ⟨none, 0, rfl, Res.none_ _, below_put3 BW (by omega) _ _ _⟩

set_option maxHeartbeats 1000000 in
theorem floor_ge {A : Option Addr} {n c x : Nat} {neg : Bool} {e at_ : Int} {w : World} (h : Arg w A n c x) (hs : n ≤ 30000) (hT : Tab w) (HM : Hid (D.may ⟨neg, x, e⟩ = true)) (hp : plB at_ = true) {dn : Bool} {dx : Nat} {de : Int} (HD : Hid (D.pl ⟨neg, x, e⟩ = ⟨dn, dx, de⟩)) (hge : at_ ≤ de) :
    Calls Tryd.prog 24 #[.agg #[.bool neg, .slice A n c, .int .i64 e], .int .i64 at_] w (FlPost w (floorS ⟨neg, x, e⟩ at_)) := by
  have e1 := (floor_pl HM.out hp).1
  rw [HD.out] at e1
  rw [e1 hge]
  clear e1
  obtain ⟨_, m1, m2⟩ := (D.may_iff _).1 HM.out
  simp only at m1 m2
  obtain ⟨a1, a2, a3, a4, a5⟩ := pl_bounds HM.out
  rw [HD.out] at a1 a2 a3 a4
  simp only at a1 a2 a3 a4
  clear a5
  obtain ⟨t1, t2⟩ := (plB_iff at_).1 hp
  have HPB := Lib.hid (fun W => isPlace_any at_ W)
  rw [hp] at HPB
  go_enter Tryd.func24, Tryd.ntmps24
  go_wp2_with fail
  obtain ⟨W, hW, z0, z1, BW, sW⟩ := frame2 w 25 25 neg A n c e false none 0 0 0
  rw [hW]
  clear hW
  refine (may_as true (h.on BW) (by omega) HM.out).mono ?_
  rintro en w1 ⟨rfl, b⟩
  have z0 := z0.on b
  have z1 := z1.on b
  have BW := Below.step BW b
  clear b
  obtain ⟨p0, p1, p2, g0, g1, g2, _⟩ := z0.cells
  go_wp2_with fail
  refine (HPB.out _).mono ?_
  rintro en w' ⟨rfl, rfl⟩
  go_wp2_with fail
  refine (pl_as (h.on BW) hs (hT.on BW) (by omega) (by omega) HD.out).mono ?_
  rintro en w2 ⟨V, v, rfl, rv, b⟩
  have z0 := z0.on b
  have z1 := z1.on b
  have BW := Below.step BW b
  clear b p0 p1 p2 g0 g1 g2
  have hv := res_n_le rv (k := 128) a1
  obtain ⟨p0, p1, p2, g0, g1, g2, _⟩ := z0.cells
  have hne : w.heap.size + 1 ≠ w.heap.size := by omega
  obtain ⟨q0, q1, q2, i0, i1, i2, _⟩ := (z1.other (s := w.heap.size) (by omega) (.bool dn) (.slice V v v) (.int .i64 de)).cells
  go_wp2_with fail
  refine bodyPost_ret (v := .tuple #[.agg #[.bool dn, .slice V v v, .int .i64 de], .bool false, .int .i64 0]) (by simp [results, Tryd.results24, go_sem, q0, q1, q2]) rfl ?_
  have rv := z0.res rv (.bool dn) (.slice V v v) (.int .i64 de)
  have z1 := z1.other (s := w.heap.size) (by omega) (.bool dn) (.slice V v v) (.int .i64 de)
  exact ⟨V, v, rfl, z1.res rv _ _ _, below_put3 (below_put3 BW (Nat.le_refl _) _ _ _) (by omega) _ _ _⟩

set_option maxHeartbeats 1000000 in
theorem floor_lt {A : Option Addr} {n c x : Nat} {neg : Bool} {e at_ : Int} {w : World} (h : Arg w A n c x) (hs : n ≤ 30000) (hT : Tab w) (HM : Hid (D.may ⟨neg, x, e⟩ = true)) (hp : plB at_ = true) {dn : Bool} {dx : Nat} {de : Int} (HD : Hid (D.pl ⟨neg, x, e⟩ = ⟨dn, dx, de⟩)) (hlt : de < at_) :
    Calls Tryd.prog 24 #[.agg #[.bool neg, .slice A n c, .int .i64 e], .int .i64 at_] w (FlPost w (floorS ⟨neg, x, e⟩ at_)) := by
  have e1 := (floor_pl HM.out hp).2
  rw [HD.out] at e1
  rw [e1 hlt]
  clear e1
  obtain ⟨_, m1, m2⟩ := (D.may_iff _).1 HM.out
  simp only at m1 m2
  obtain ⟨a1, a2, a3, a4, a5⟩ := pl_bounds HM.out
  rw [HD.out] at a1 a2 a3 a4
  simp only at a1 a2 a3 a4
  clear a5
  obtain ⟨t1, t2⟩ := (plB_iff at_).1 hp
  have HPB := Lib.hid (fun W => isPlace_any at_ W)
  rw [hp] at HPB
  simp only
  obtain ⟨⟨rn, rx, re⟩, hr⟩ : ∃ r, D.pl ⟨dn, dx / 2 ^ (at_ - de).toNat, at_⟩ = r := ⟨_, rfl⟩
  obtain ⟨bl, hbl⟩ : ∃ bl, decide (dx % 2 ^ (at_ - de).toNat ≠ 0) = bl := ⟨_, rfl⟩
  rw [hr, hbl]
  have HR := Lib.hid hr
  have HBL := Lib.hid hbl
  clear hr hbl
  go_enter Tryd.func24, Tryd.ntmps24
  go_wp2_with fail
  obtain ⟨W, hW, z0, z1, BW, sW⟩ := frame2 w 25 25 neg A n c e false none 0 0 0
  rw [hW]
  clear hW
  refine (may_as true (h.on BW) (by omega) HM.out).mono ?_
  rintro en w1 ⟨rfl, b⟩
  have z0 := z0.on b
  have z1 := z1.on b
  have BW := Below.step BW b
  clear b
  obtain ⟨p0, p1, p2, g0, g1, g2, _⟩ := z0.cells
  go_wp2_with fail
  refine (HPB.out _).mono ?_
  rintro en w' ⟨rfl, rfl⟩
  go_wp2_with fail
  refine (pl_as (h.on BW) hs (hT.on BW) (by omega) (by omega) HD.out).mono ?_
  rintro en w2 ⟨V, v, rfl, rv, b⟩
  have z0 := z0.on b
  have z1 := z1.on b
  have BW := Below.step BW b
  clear b p0 p1 p2 g0 g1 g2
  have hv := res_n_le rv (k := 128) a1
  obtain ⟨p0, p1, p2, g0, g1, g2, _⟩ := z0.cells
  go_wp2_with fail
  clear p0 p1 p2 g0 g1 g2
  obtain ⟨w3, e1, e2⟩ := put3_named w2 w.heap.size (.bool dn) (.slice V v v) (.int .i64 de)
  have rv := z0.res rv (.bool dn) (.slice V v v) (.int .i64 de)
  have z1 := z1.other (s := w.heap.size) (by omega) (.bool dn) (.slice V v v) (.int .i64 de)
  have z0 := z0.put_d dn V v v de
  have BW := below_put3 BW (Nat.le_refl _) (.bool dn) (.slice V v v) (.int .i64 de)
  rw [e1]
  rw [e2] at rv z0 z1 BW
  clear e1 e2
  refine (right_bl (rv.arg (by omega)) (by omega) (at_ - de) (by omega) (hT.on BW) bl HBL).mono ?_
  rintro en w4 ⟨V2, v2, rfl, rv2, l2, b⟩
  have z0 := z0.on b
  have z1 := z1.on b
  have BW := Below.step BW b
  clear b
  obtain ⟨p0, p1, p2, g0, g1, g2, _⟩ := z0.cells
  go_wp2_with fail
  refine (pl_as (rv2.arg (by omega)) (by omega) (hT.on BW) (by omega) (by omega) HR.out).mono ?_
  rintro en w5 ⟨V3, v3, rfl, rv3, b⟩
  have z1 := z1.on b
  have BW := Below.step BW b
  clear b p0 p1 p2 g0 g1 g2
  obtain ⟨p0, p1, p2, g0, g1, g2, _⟩ := z1.cells
  go_wp2_with fail
  refine bodyPost_ret (v := .tuple #[.agg #[.bool rn, .slice V3 v3 v3, .int .i64 re], .bool bl, .int .i64 0]) (by simp [results, Tryd.results24, go_sem, p0, p1, p2]) rfl ?_
  exact ⟨V3, v3, rfl, z1.res rv3 _ _ _, below_put3 BW (by omega) _ _ _⟩

theorem dfloor_any {A : Option Addr} {n c x : Nat} {neg : Bool} {e at_ : Int} {w : World} (h : Arg w A n c x) (hs : n ≤ 30000) (hT : Tab w) :
    Calls Tryd.prog 24 #[.agg #[.bool neg, .slice A n c, .int .i64 e], .int .i64 at_] w (FlPost w (floorS ⟨neg, x, e⟩ at_)) := by
  obtain ⟨m, hm⟩ : ∃ b, D.may ⟨neg, x, e⟩ = b := ⟨_, rfl⟩
  cases m
  · exact floor_err h hs hT hm
  · obtain ⟨p, hp⟩ : ∃ b, plB at_ = b := ⟨_, rfl⟩
    cases p
    · exact floor_arg h hs hT hm hp
    · obtain ⟨⟨dn, dx, de⟩, hd⟩ : ∃ d, D.pl ⟨neg, x, e⟩ = d := ⟨_, rfl⟩
      by_cases hge : at_ ≤ de
      · exact floor_ge h hs hT hm hp hd hge
      · exact floor_lt h hs hT hm hp hd (by omega)
end Go.Proofs.YthaehfdjldjdiaaDoor
