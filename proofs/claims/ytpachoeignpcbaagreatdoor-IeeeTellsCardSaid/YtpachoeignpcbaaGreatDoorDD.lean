/-
  dyad's Add, whole.
  The walks of dyad's Sub, Mul, Plain, Of, Top.
-/
import Derived.Test.YtpachoeignpcbaaGreatDoorDB
import Derived.Test.YtpachoeignpcbaaGreatDoorDC
namespace Go.Proofs.YtpachoeignpcbaaGreatDoor
open Go.RowKit
set_option linter.unusedVariables false

set_option maxHeartbeats 4000000 in
theorem add_err {A1 A2 : Option Addr} {n1 c1 n2 c2 x y : Nat} {na nb : Bool} {ea eb : Int} {w : World} (h1 : Arg w A1 n1 c1 x) (h2 : Arg w A2 n2 c2 y) (s1 : n1 ≤ 30000) (s2 : n2 ≤ 30000) (hT : Tab w) (hm : D.may ⟨na, x, ea⟩ = false ∨ D.may ⟨nb, y, eb⟩ = false) :
    Calls Tryz.prog 44 #[.agg #[.bool na, .slice A1 n1 c1, .int .i64 ea], .agg #[.bool nb, .slice A2 n2 c2, .int .i64 eb]] w (DPost w (addS ⟨na, x, ea⟩ ⟨nb, y, eb⟩)) := by
  rw [addS_err hm]
  have HBP := Lib.hid (fun W (hW : Below w.heap.size w W) => both_err (h1.on hW) (h2.on hW) s1 s2 hm)
  clear hm
  go_enter Tryz.func44, Tryz.ntmps44
  go_wp2_with fail
  obtain ⟨W, hW, z0, z1, z2, BW, sW⟩ := frame3 w 48 48 48 na A1 n1 c1 ea nb A2 n2 c2 eb false none 0 0 0
  rw [hW]
  clear hW
  refine (HBP.out W BW).mono ?_
  rintro en w1 ⟨rfl, b⟩
  have z0 := z0.on b
  have z1 := z1.on b
  have z2 := z2.on b
  have BW := Below.step BW b
  clear b HBP
  obtain ⟨p0, p1, p2, g0, g1, g2, _⟩ := z0.cells
  obtain ⟨q0, q1, q2, i0, i1, i2, _⟩ := z1.cells
  obtain ⟨o0, o1, o2, j0, j1, j2, _⟩ := z2.cells
  go_wp2_with fail
  refine bodyPost_ret (v := .tuple #[.agg #[.bool false, .slice none 0 0, .int .i64 0], .int .i64 3]) (by simp [results, Tryz.results44, go_sem, o0, o1, o2]) rfl ?_
  exact ⟨none, 0, rfl, Res.none_ _, below_put3 (below_put3 (below_put3 BW (by omega) _ _ _) (by omega) _ _ _) (by omega) _ _ _⟩

/-- dyad.Add tells the sum, or why there is none. -/
theorem dadd_any {A1 A2 : Option Addr} {n1 c1 n2 c2 x y : Nat} {na nb : Bool} {ea eb : Int} {w : World} (h1 : Arg w A1 n1 c1 x) (h2 : Arg w A2 n2 c2 y) (s1 : n1 ≤ 30000) (s2 : n2 ≤ 30000) (hT : Tab w) :
    Calls Tryz.prog 44 #[.agg #[.bool na, .slice A1 n1 c1, .int .i64 ea], .agg #[.bool nb, .slice A2 n2 c2, .int .i64 eb]] w (DPost w (addS ⟨na, x, ea⟩ ⟨nb, y, eb⟩)) := by
  by_cases ma : D.may ⟨na, x, ea⟩ = true
  · by_cases mb : D.may ⟨nb, y, eb⟩ = true
    · obtain ⟨⟨an, ax, ae⟩, hpa⟩ : ∃ p, D.pl ⟨na, x, ea⟩ = p := ⟨_, rfl⟩
      obtain ⟨⟨bn, bx, be⟩, hpb⟩ : ∃ p, D.pl ⟨nb, y, eb⟩ = p := ⟨_, rfl⟩
      obtain ⟨m, hm⟩ : ∃ m, min ae be = m := ⟨_, rfl⟩
      obtain ⟨i, hi⟩ := Int.eq_ofNat_of_zero_le (show 0 ≤ ae - m by omega)
      obtain ⟨j, hj⟩ := Int.eq_ofNat_of_zero_le (show 0 ≤ be - m by omega)
      by_cases f1 : blen ax + i ≤ 16384
      · by_cases f2 : blen bx + j ≤ 16384
        · by_cases hn : an = bn
          · exact add_same h1 h2 s1 s2 hT ma mb hpa hpb hm hi hj f1 f2 hn
          · have hn : (an == bn) = false := by simpa using hn
            rcases Nat.lt_or_ge (ax * 2 ^ i) (bx * 2 ^ j) with hle | hle
            · exact add_lt h1 h2 s1 s2 hT ma mb hpa hpb hm hi hj f1 f2 hn hle
            · exact add_ge h1 h2 s1 s2 hT ma mb hpa hpb hm hi hj f1 f2 hn hle
        · exact add_over_ h1 h2 s1 s2 hT ma mb hpa hpb hm hi hj (.inr (by omega))
      · exact add_over_ h1 h2 s1 s2 hT ma mb hpa hpb hm hi hj (.inl (by omega))
    · exact add_err h1 h2 s1 s2 hT (.inr (by simpa using mb))
  · exact add_err h1 h2 s1 s2 hT (.inl (by simpa using ma))
end Go.Proofs.YtpachoeignpcbaaGreatDoor

namespace Go.Proofs.YtpachoeignpcbaaGreatDoor
open Go.RowKit
set_option linter.unusedVariables false

def mulS (a b : D) : D × Int := if a.may && b.may then tld (a.mul b) else (⟨false, 0, 0⟩, 3)
theorem mulS_ok {a b : D} (ha : a.may = true) (hb : b.may = true) : mulS a b = tld (a.mul b) := by unfold mulS; rw [ha, hb]; rfl
theorem mulS_err {a b : D} (h : a.may = false ∨ b.may = false) : mulS a b = (⟨false, 0, 0⟩, 3) := by
  unfold mulS
  rcases h with h | h <;> rw [h]
  · rfl
  · rw [Bool.and_false]; rfl
theorem mul_at_pl {a b : D} (ha : a.may = true) (hb : b.may = true) : (⟨a.pl.neg != b.pl.neg, a.pl.x * b.pl.x, a.pl.e + b.pl.e⟩ : D).pl = a.mul b := by
  obtain ⟨_, a2, a3, _⟩ := pl_bounds ha
  obtain ⟨_, b2, b3, _⟩ := pl_bounds hb
  obtain ⟨_, a5, a6⟩ := (D.may_iff a).1 ha
  obtain ⟨_, b5, b6⟩ := (D.may_iff b).1 hb
  refine D.mul_of (by omega) (by omega) (D.mul_low (a := a.pl) (b := b.pl) (by omega) (by omega)) (D.pl_plain _) ?_
  have := D.mul_vl (a := a.pl) (b := b.pl) (by omega) (by omega)
  rw [D.pl_vl (d := a) (by omega), D.pl_vl (d := b) (by omega)] at this
  exact this

set_option maxHeartbeats 4000000 in
theorem mul_ok {A1 A2 : Option Addr} {n1 c1 n2 c2 x y : Nat} {na nb : Bool} {ea eb : Int} {w : World} (h1 : Arg w A1 n1 c1 x) (h2 : Arg w A2 n2 c2 y) (s1 : n1 ≤ 30000) (s2 : n2 ≤ 30000) (hT : Tab w)
    (ma : D.may ⟨na, x, ea⟩ = true) (mb : D.may ⟨nb, y, eb⟩ = true) {an bn : Bool} {ax bx : Nat} {ae be : Int} (hpa : D.pl ⟨na, x, ea⟩ = ⟨an, ax, ae⟩) (hpb : D.pl ⟨nb, y, eb⟩ = ⟨bn, bx, be⟩) :
    Calls Tryz.prog 52 #[.agg #[.bool na, .slice A1 n1 c1, .int .i64 ea], .agg #[.bool nb, .slice A2 n2 c2, .int .i64 eb]] w (DPost w (mulS ⟨na, x, ea⟩ ⟨nb, y, eb⟩)) := by
  obtain ⟨a1, a2, a3, a4, a5⟩ := pl_bounds ma
  obtain ⟨b1, b2, b3, b4, b5⟩ := pl_bounds mb
  have HBP := Lib.hid (fun W (hW : Below w.heap.size w W) => both_plain (h1.on hW) (h2.on hW) s1 s2 (hT.on hW) ma mb)
  rw [hpa, hpb] at HBP
  rw [hpa] at a1 a2 a3 a4
  rw [hpb] at b1 b2 b3 b4
  simp only at a1 a2 a3 a4 b1 b2 b3 b4
  have HADD := Lib.hid (mul_at_pl ma mb)
  rw [hpa, hpb] at HADD
  have HTL := Lib.hid (mulS_ok ma mb)
  rw [HTL.out, ← HADD.out]
  obtain ⟨⟨⟨rn, rx, re⟩, err⟩, hr⟩ : ∃ r, tld (D.pl ⟨an != bn, ax * bx, ae + be⟩) = r := ⟨_, rfl⟩
  simp only
  rw [hr]
  have HR := Lib.hid hr
  clear hr HTL HADD ma mb hpa hpb
  go_enter Tryz.func52, Tryz.ntmps52
  go_wp2_with fail
  obtain ⟨W, hW, z0, z1, z2, BW, sW⟩ := frame3 w 48 48 48 na A1 n1 c1 ea nb A2 n2 c2 eb false none 0 0 0
  rw [hW]
  clear hW
  refine (HBP.out W BW).mono ?_
  rintro en w1 ⟨P1, k1, P2, k2, rfl, r1, r2, b⟩
  have z0 := z0.on b
  have z1 := z1.on b
  have z2 := z2.on b
  have BW := Below.step BW b
  have sW : w.heap.size + 3 ≤ w1.heap.size := by have := b.size; omega
  clear b HBP
  obtain ⟨p0, p1, p2, g0, g1, g2, _⟩ := z0.cells
  obtain ⟨q0, q1, q2, i0, i1, i2, _⟩ := z1.cells
  have hk1 := res_n_le r1 (k := 128) a1
  have hk2 := res_n_le r2 (k := 128) b1
  go_wp2_with fail
  clear p0 p1 p2 g0 g1 g2 q0 q1 q2 i0 i1 i2
  obtain ⟨w2, e1, e2⟩ := put3_named w1 w.heap.size (.bool an) (.slice P1 k1 k1) (.int .i64 ae)
  have r1 := z0.res r1 (.bool an) (.slice P1 k1 k1) (.int .i64 ae)
  have r2 := z0.res r2 (.bool an) (.slice P1 k1 k1) (.int .i64 ae)
  have z1 := z1.other (s := w.heap.size) (by omega) (.bool an) (.slice P1 k1 k1) (.int .i64 ae)
  have z2 := z2.other (s := w.heap.size) (by omega) (.bool an) (.slice P1 k1 k1) (.int .i64 ae)
  have z0 := z0.put_d an P1 k1 k1 ae
  have BW := below_put3 BW (Nat.le_refl _) (.bool an) (.slice P1 k1 k1) (.int .i64 ae)
  have sW : w.heap.size + 3 ≤ (put3 w1 w.heap.size (.bool an) (.slice P1 k1 k1) (.int .i64 ae)).heap.size := by rw [put3_size]; exact sW
  rw [e1]
  rw [e2] at r1 r2 z0 z1 z2 BW sW
  clear e1 e2
  obtain ⟨w3, e1, e2⟩ := put3_named w2 (w.heap.size + 1) (.bool bn) (.slice P2 k2 k2) (.int .i64 be)
  have r1 := z1.res r1 (.bool bn) (.slice P2 k2 k2) (.int .i64 be)
  have r2 := z1.res r2 (.bool bn) (.slice P2 k2 k2) (.int .i64 be)
  have z0 := z0.other (s := w.heap.size + 1) (by omega) (.bool bn) (.slice P2 k2 k2) (.int .i64 be)
  have z2 := z2.other (s := w.heap.size + 1) (by omega) (.bool bn) (.slice P2 k2 k2) (.int .i64 be)
  have z1 := z1.put_d bn P2 k2 k2 be
  have BW := below_put3 BW (by omega : w.heap.size ≤ w.heap.size + 1) (.bool bn) (.slice P2 k2 k2) (.int .i64 be)
  have sW : w.heap.size + 3 ≤ (put3 w2 (w.heap.size + 1) (.bool bn) (.slice P2 k2 k2) (.int .i64 be)).heap.size := by rw [put3_size]; exact sW
  rw [e1]
  rw [e2] at r1 r2 z0 z1 z2 BW sW
  clear e1 e2
  obtain ⟨p0, p1, p2, g0, g1, g2, _⟩ := z0.cells
  obtain ⟨q0, q1, q2, i0, i1, i2, _⟩ := z1.cells
  refine (mul_any (r1.arg (by omega)) (r2.arg (by omega)) (by omega) (by omega) (by omega)).mono ?_
  rintro en w4 ⟨V, v, rfl, rv, lv, b⟩
  have z0 := z0.on b
  have z1 := z1.on b
  have z2 := z2.on b
  have BW := Below.step BW b
  clear b r1 r2 p0 p1 p2 g0 g1 g2 q0 q1 q2 i0 i1 i2
  obtain ⟨p0, p1, p2, g0, g1, g2, _⟩ := z0.cells
  obtain ⟨q0, q1, q2, i0, i1, i2, _⟩ := z1.cells
  go_wp2_with fail
  refine (told_as (rv.arg (by omega)) (by omega) (hT.on BW) (by omega) (by omega) HR.out).mono ?_
  rintro en w5 ⟨V2, v2, rfl, rv2, b⟩
  have z2 := z2.on b
  have BW := Below.step BW b
  clear b p0 p1 p2 g0 g1 g2 q0 q1 q2 i0 i1 i2
  obtain ⟨p0, p1, p2, g0, g1, g2, _⟩ := z2.cells
  go_wp2_with fail
  refine bodyPost_ret (v := .tuple #[.agg #[.bool rn, .slice V2 v2 v2, .int .i64 re], .int .i64 err]) (by simp [results, Tryz.results52, go_sem, p0, p1, p2]) rfl ?_
  exact ⟨V2, v2, rfl, z2.res rv2 _ _ _, below_put3 BW (by omega) _ _ _⟩

set_option maxHeartbeats 4000000 in
theorem mul_err {A1 A2 : Option Addr} {n1 c1 n2 c2 x y : Nat} {na nb : Bool} {ea eb : Int} {w : World} (h1 : Arg w A1 n1 c1 x) (h2 : Arg w A2 n2 c2 y) (s1 : n1 ≤ 30000) (s2 : n2 ≤ 30000) (hT : Tab w) (hm : D.may ⟨na, x, ea⟩ = false ∨ D.may ⟨nb, y, eb⟩ = false) :
    Calls Tryz.prog 52 #[.agg #[.bool na, .slice A1 n1 c1, .int .i64 ea], .agg #[.bool nb, .slice A2 n2 c2, .int .i64 eb]] w (DPost w (mulS ⟨na, x, ea⟩ ⟨nb, y, eb⟩)) := by
  rw [mulS_err hm]
  have HBP := Lib.hid (fun W (hW : Below w.heap.size w W) => both_err (h1.on hW) (h2.on hW) s1 s2 hm)
  clear hm
  go_enter Tryz.func52, Tryz.ntmps52
  go_wp2_with fail
  obtain ⟨W, hW, z0, z1, z2, BW, sW⟩ := frame3 w 48 48 48 na A1 n1 c1 ea nb A2 n2 c2 eb false none 0 0 0
  rw [hW]
  clear hW
  refine (HBP.out W BW).mono ?_
  rintro en w1 ⟨rfl, b⟩
  have z0 := z0.on b
  have z1 := z1.on b
  have z2 := z2.on b
  have BW := Below.step BW b
  clear b HBP
  obtain ⟨p0, p1, p2, g0, g1, g2, _⟩ := z0.cells
  obtain ⟨q0, q1, q2, i0, i1, i2, _⟩ := z1.cells
  obtain ⟨o0, o1, o2, j0, j1, j2, _⟩ := z2.cells
  go_wp2_with fail
  refine bodyPost_ret (v := .tuple #[.agg #[.bool false, .slice none 0 0, .int .i64 0], .int .i64 3]) (by simp [results, Tryz.results52, go_sem, o0, o1, o2]) rfl ?_
  exact ⟨none, 0, rfl, Res.none_ _, below_put3 (below_put3 (below_put3 BW (by omega) _ _ _) (by omega) _ _ _) (by omega) _ _ _⟩

theorem dmul_any {A1 A2 : Option Addr} {n1 c1 n2 c2 x y : Nat} {na nb : Bool} {ea eb : Int} {w : World} (h1 : Arg w A1 n1 c1 x) (h2 : Arg w A2 n2 c2 y) (s1 : n1 ≤ 30000) (s2 : n2 ≤ 30000) (hT : Tab w) :
    Calls Tryz.prog 52 #[.agg #[.bool na, .slice A1 n1 c1, .int .i64 ea], .agg #[.bool nb, .slice A2 n2 c2, .int .i64 eb]] w (DPost w (mulS ⟨na, x, ea⟩ ⟨nb, y, eb⟩)) := by
  by_cases ma : D.may ⟨na, x, ea⟩ = true
  · by_cases mb : D.may ⟨nb, y, eb⟩ = true
    · obtain ⟨⟨an, ax, ae⟩, hpa⟩ : ∃ p, D.pl ⟨na, x, ea⟩ = p := ⟨_, rfl⟩
      obtain ⟨⟨bn, bx, be⟩, hpb⟩ : ∃ p, D.pl ⟨nb, y, eb⟩ = p := ⟨_, rfl⟩
      exact mul_ok h1 h2 s1 s2 hT ma mb hpa hpb
    · exact mul_err h1 h2 s1 s2 hT (.inr (by simpa using mb))
  · exact mul_err h1 h2 s1 s2 hT (.inl (by simpa using ma))

def plainS (a : D) : D × Int := if a.may then (a.pl, 0) else (⟨false, 0, 0⟩, 3)
set_option maxHeartbeats 1000000 in
theorem dplain_any {A : Option Addr} {n c x : Nat} {neg : Bool} {e : Int} {w : World} (h : Arg w A n c x) (hs : n ≤ 30000) (hT : Tab w) :
    Calls Tryz.prog 87 #[.agg #[.bool neg, .slice A n c, .int .i64 e]] w (DPost w (plainS ⟨neg, x, e⟩)) := by
  obtain ⟨m, hm⟩ : ∃ b, D.may ⟨neg, x, e⟩ = b := ⟨_, rfl⟩
  have HM := Lib.hid hm
  clear hm
  cases m
  · have e1 : plainS ⟨neg, x, e⟩ = (⟨false, 0, 0⟩, 3) := by unfold plainS; rw [HM.out]; rfl
    rw [e1]
    clear e1
    go_enter Tryz.func87, Tryz.ntmps87
    go_wp2_with fail
    obtain ⟨W, hW, z0, z1, BW, sW⟩ := frame2 w 48 48 neg A n c e false none 0 0 0
    rw [hW]
    clear hW
    refine (may_as false (h.on BW) (by omega) HM.out).mono ?_
    rintro en w1 ⟨rfl, b⟩
    have z1 := z1.on b
    have BW := Below.step BW b
    clear b
    obtain ⟨p0, p1, p2, g0, g1, g2, _⟩ := z1.cells
    go_wp2_with fail
    refine bodyPost_ret (v := .tuple #[.agg #[.bool false, .slice none 0 0, .int .i64 0], .int .i64 3]) (by simp [results, Tryz.results87, go_sem, p0, p1, p2]) rfl ?_
    exact ⟨none, 0, rfl, Res.none_ _, below_put3 BW (by omega) _ _ _⟩
  · have e1 : plainS ⟨neg, x, e⟩ = (D.pl ⟨neg, x, e⟩, 0) := by unfold plainS; rw [HM.out]; rfl
    rw [e1]
    clear e1
    obtain ⟨_, m1, m2⟩ := (D.may_iff _).1 HM.out
    simp only at m1 m2
    go_enter Tryz.func87, Tryz.ntmps87
    go_wp2_with fail
    obtain ⟨W, hW, z0, z1, BW, sW⟩ := frame2 w 48 48 neg A n c e false none 0 0 0
    rw [hW]
    clear hW
    refine (may_as true (h.on BW) (by omega) HM.out).mono ?_
    rintro en w1 ⟨rfl, b⟩
    have z0 := z0.on b
    have z1 := z1.on b
    have BW := Below.step BW b
    clear b
    obtain ⟨p0, p1, p2, g0, g1, g2, _⟩ := z0.cells
    go_wp2_with fail
    refine (plain_any (h.on BW) hs (hT.on BW) (by omega) (by omega)).mono ?_
    rintro en w2 ⟨V, v, rfl, rv, b⟩
    generalize D.pl ⟨neg, x, e⟩ = d at *
    obtain ⟨dn, dx, de⟩ := d
    clear p0 p1 p2 g0 g1 g2
    have z1 := z1.on b
    have BW := Below.step BW b
    clear b
    obtain ⟨p0, p1, p2, g0, g1, g2, _⟩ := z1.cells
    go_wp2_with fail
    refine bodyPost_ret (v := .tuple #[.agg #[.bool dn, .slice V v v, .int .i64 de], .int .i64 0]) (by simp [results, Tryz.results87, go_sem, p0, p1, p2]) rfl ?_
    exact ⟨V, v, rfl, z1.res rv _ _ _, below_put3 BW (by omega) _ _ _⟩

theorem pl_as {A : Option Addr} {n c x : Nat} {neg : Bool} {e : Int} {w : World} {dn : Bool} {dx : Nat} {de : Int} (h : Arg w A n c x) (hs : n ≤ 30000) (hT : Tab w) (he : -1000000 ≤ e) (he2 : e ≤ 1000000) (hd : D.pl ⟨neg, x, e⟩ = ⟨dn, dx, de⟩) :
    Calls Tryz.prog 106 #[.agg #[.bool neg, .slice A n c, .int .i64 e]] w (PlPost w ⟨dn, dx, de⟩) := by
  have := plain_any (neg := neg) h hs hT he he2
  rwa [hd] at this

def ofD (n : Int) : D := D.pl ⟨decide (n < 0), n.natAbs, 0⟩
def topS (a : D) : Int × Int := if a.may then (if a.x = 0 then (0, 1) else ((blen a.x : Int) - 1 + a.e, 0)) else (0, 3)
def IntPost (w : World) (r : Int × Int) (e : Ending) (w' : World) : Prop := e = .returned (.tuple #[.int .i64 r.1, .int .i64 r.2]) ∧ Below w.heap.size w w'
theorem sg_zero : sg false 0 = 0 := rfl
theorem sg_ne {n : Bool} {x : Nat} (h : x ≠ 0) : (sg n x == 0) = false := by unfold sg; cases n <;> simp [h]
set_option maxHeartbeats 1000000 in
theorem dtop_any {A : Option Addr} {n c x : Nat} {neg : Bool} {e : Int} {w : World} (h : Arg w A n c x) (hs : n ≤ 30000) (hT : Tab w) :
    Calls Tryz.prog 118 #[.agg #[.bool neg, .slice A n c, .int .i64 e]] w (IntPost w (topS ⟨neg, x, e⟩)) := by
  obtain ⟨m, hm⟩ : ∃ b, D.may ⟨neg, x, e⟩ = b := ⟨_, rfl⟩
  have HM := Lib.hid hm
  clear hm
  cases m
  · have e1 : topS ⟨neg, x, e⟩ = (0, 3) := by unfold topS; rw [HM.out]; rfl
    rw [e1]
    clear e1
    go_enter Tryz.func118, Tryz.ntmps118
    go_wp2_with fail
    obtain ⟨W, hW, z0, BW, sW⟩ := frame1 w 48 neg A n c e
    rw [hW]
    clear hW
    refine (may_as false (h.on BW) (by omega) HM.out).mono ?_
    rintro en w1 ⟨rfl, b⟩
    have BW := Below.step BW b
    clear b
    go_wp2_with fail
    go_ret2
    exact ⟨rfl, BW⟩
  · obtain ⟨_, m1, m2⟩ := (D.may_iff _).1 HM.out
    simp only at m1 m2
    obtain ⟨a1, a2, a3, a4, a5⟩ := pl_bounds HM.out
    obtain ⟨⟨dn, dx, de⟩, hd⟩ : ∃ d, D.pl ⟨neg, x, e⟩ = d := ⟨_, rfl⟩
    rw [hd] at a1 a2 a3 a4
    simp only at a1 a2 a3 a4
    have HD := Lib.hid hd
    have e1 : topS ⟨neg, x, e⟩ = (if dx = 0 then (0, 1) else ((blen dx : Int) - 1 + de, 0)) := by
      unfold topS
      rw [HM.out, if_pos rfl]
      by_cases h0 : x = 0
      · have := D.pl_zero (d := ⟨neg, x, e⟩) h0
        rw [hd] at this
        injection this with _ hx _
        rw [if_pos h0, if_pos hx]
      · have := D.pl_pos (d := ⟨neg, x, e⟩) h0
        rw [hd] at this
        injection this with _ hx he
        have h3 := (tz_blen h0).2.2
        have h4 := blen_div_tz h0
        simp only at hx he
        rw [if_neg h0, if_neg (by rw [hx]; omega), hx, he]
        congr 1
        show (blen x : Int) - 1 + e = _
        omega
    rw [e1]
    clear e1 hd a5
    by_cases h0 : dx = 0
    · rw [if_pos h0]
      subst h0
      go_enter Tryz.func118, Tryz.ntmps118
      go_wp2_with fail
      obtain ⟨W, hW, z0, BW, sW⟩ := frame1 w 48 neg A n c e
      rw [hW]
      clear hW
      refine (may_as true (h.on BW) (by omega) HM.out).mono ?_
      rintro en w1 ⟨rfl, b⟩
      have z0 := z0.on b
      have BW := Below.step BW b
      clear b
      obtain ⟨p0, p1, p2, g0, g1, g2, _⟩ := z0.cells
      go_wp2_with fail
      refine (pl_as (h.on BW) hs (hT.on BW) (by omega) (by omega) HD.out).mono ?_
      rintro en w2 ⟨V, v, rfl, rv, b⟩
      have z0 := z0.on b
      have BW := Below.step BW b
      clear b p0 p1 p2 g0 g1 g2
      have hv := res_n_le rv (k := 128) a1
      obtain ⟨p0, p1, p2, g0, g1, g2, _⟩ := z0.cells
      go_wp2_with fail
      clear p0 p1 p2 g0 g1 g2
      obtain ⟨w3, e1, e2⟩ := put3_named w2 w.heap.size (.bool dn) (.slice V v v) (.int .i64 de)
      have rv := z0.res rv (.bool dn) (.slice V v v) (.int .i64 de)
      have z0 := z0.put_d dn V v v de
      have BW := below_put3 BW (Nat.le_refl _) (.bool dn) (.slice V v v) (.int .i64 de)
      rw [e1]
      rw [e2] at rv z0 BW
      clear e1 e2
      have hdn : dn = false := by
        have := D.pl_plain ⟨neg, x, e⟩
        rw [HD.out] at this
        rcases this with ⟨_, h, _⟩ | h
        · exact h
        · simp at h
      subst hdn
      refine (sign_any rv (by omega)).mono ?_
      rintro en w4 ⟨rfl, b⟩
      rw [sg_zero]
      have BW := Below.step BW b
      clear b
      go_wp2_with fail
      go_ret2
      exact ⟨rfl, BW⟩
    · rw [if_neg h0]
      have hsg := sg_ne (n := dn) h0
      go_enter Tryz.func118, Tryz.ntmps118
      go_wp2_with fail
      obtain ⟨W, hW, z0, BW, sW⟩ := frame1 w 48 neg A n c e
      rw [hW]
      clear hW
      refine (may_as true (h.on BW) (by omega) HM.out).mono ?_
      rintro en w1 ⟨rfl, b⟩
      have z0 := z0.on b
      have BW := Below.step BW b
      clear b
      obtain ⟨p0, p1, p2, g0, g1, g2, _⟩ := z0.cells
      go_wp2_with fail
      refine (pl_as (h.on BW) hs (hT.on BW) (by omega) (by omega) HD.out).mono ?_
      rintro en w2 ⟨V, v, rfl, rv, b⟩
      have z0 := z0.on b
      have BW := Below.step BW b
      clear b p0 p1 p2 g0 g1 g2
      have hv := res_n_le rv (k := 128) a1
      obtain ⟨p0, p1, p2, g0, g1, g2, _⟩ := z0.cells
      go_wp2_with fail
      clear p0 p1 p2 g0 g1 g2
      obtain ⟨w3, e1, e2⟩ := put3_named w2 w.heap.size (.bool dn) (.slice V v v) (.int .i64 de)
      have rv := z0.res rv (.bool dn) (.slice V v v) (.int .i64 de)
      have z0 := z0.put_d dn V v v de
      have BW := below_put3 BW (Nat.le_refl _) (.bool dn) (.slice V v v) (.int .i64 de)
      rw [e1]
      rw [e2] at rv z0 BW
      clear e1 e2
      refine (sign_any rv (by omega)).mono ?_
      rintro en w4 ⟨rfl, b⟩
      have z0 := z0.on b
      have rv := rv.on b
      have BW := Below.step BW b
      clear b
      obtain ⟨p0, p1, p2, g0, g1, g2, _⟩ := z0.cells
      go_wp2_with fail
      refine (top_any (rv.arg (by omega)) (by omega) (by omega) (by omega)).mono ?_
      rintro en w5 ⟨rfl, b⟩
      have BW := Below.step BW b
      clear b
      go_wp2_with fail
      go_ret2
      exact ⟨rfl, BW⟩
end Go.Proofs.YtpachoeignpcbaaGreatDoor
