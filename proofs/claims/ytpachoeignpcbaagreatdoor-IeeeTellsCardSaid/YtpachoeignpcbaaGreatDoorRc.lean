
/-
  The reference's Add.
-/
import Derived.Test.YtpachoeignpcbaaGreatDoorRA
namespace Go.Proofs.YtpachoeignpcbaaGreatDoor
open Go.RowKit
set_option linter.unusedVariables false

/-- a sum, put together at the lower place, of numbers as they stand. -/
theorem add_low_ref {a b : D} (ha : a.may = true) (hb : b.may = true) {m : Int} {i j : Nat} (hm : min a.e b.e = m) (hi : a.e - m = (i : Int)) (hj : b.e - m = (j : Int)) {n : Bool} {u : Nat}
    (hu : (⟨n, u, m⟩ : D).sz = (⟨a.neg, a.x * 2 ^ i, m⟩ : D).sz + (⟨b.neg, b.x * 2 ^ j, m⟩ : D).sz) : (⟨n, u, m⟩ : D).pl = a.add b := by
  obtain ⟨_, a5, a6⟩ := (D.may_iff a).1 ha
  obtain ⟨_, b5, b6⟩ := (D.may_iff b).1 hb
  refine D.add_of (by omega) (by omega) (D.pl_low (by show -40000 ≤ m; omega) (by omega)) (D.pl_plain _) ?_
  rw [D.pl_vl (by show -40000 ≤ m; omega)]
  unfold D.vl
  rw [hu, sz_shift _ _ _ _ a.e, sz_shift _ _ _ _ b.e]
  show (a.sz * 2 ^ i + b.sz * 2 ^ j) * 2 ^ (m + 40000).toNat = a.sz * 2 ^ (a.e + 40000).toNat + b.sz * 2 ^ (b.e + 40000).toNat
  rw [Int.add_mul, Int.mul_assoc, Int.mul_assoc, ← Int.pow_add, ← Int.pow_add, show i + (m + 40000).toNat = (a.e + 40000).toNat by omega, show j + (m + 40000).toNat = (b.e + 40000).toNat by omega]
theorem add_zero_left {a b : D} (ha : a.may = true) (hb : b.may = true) (h : a.x = 0) : a.add b = b.pl := by
  obtain ⟨_, a5, a6⟩ := (D.may_iff a).1 ha
  obtain ⟨_, b5, b6⟩ := (D.may_iff b).1 hb
  exact (D.add_of (by omega) (by omega) (D.pl_low (by omega) (by omega)) (D.pl_plain _) (by rw [D.pl_vl (by omega), D.vl_zero.2 h, Int.zero_add])).symm
theorem add_zero_right {a b : D} (ha : a.may = true) (hb : b.may = true) (h : b.x = 0) : a.add b = a.pl := by
  obtain ⟨_, a5, a6⟩ := (D.may_iff a).1 ha
  obtain ⟨_, b5, b6⟩ := (D.may_iff b).1 hb
  exact (D.add_of (by omega) (by omega) (D.pl_low (by omega) (by omega)) (D.pl_plain _) (by rw [D.pl_vl (by omega), D.vl_zero.2 h, Int.add_zero])).symm
theorem sz_both {n : Bool} {X Y : Nat} {m m' : Int} : (⟨n, X + Y, m⟩ : D).sz = (⟨n, X, m⟩ : D).sz + (⟨n, Y, m'⟩ : D).sz := by
  unfold D.sz
  cases n <;> simp <;> omega

set_option maxHeartbeats 4000000 in
theorem radd_err {A1 A2 : Option Addr} {n1 c1 n2 c2 x y : Nat} {na nb : Bool} {ea eb : Int} {w : World} (h1 : BR w A1 n1 c1 x) (h2 : BR w A2 n2 c2 y) (s1 : n1 ≤ 100000) (s2 : n2 ≤ 100000) (hm : D.may ⟨na, x, ea⟩ = false ∨ D.may ⟨nb, y, eb⟩ = false)
    {rn : Bool} {rx : Nat} {re err : Int} (HR : Hid (addS ⟨na, x, ea⟩ ⟨nb, y, eb⟩ = (⟨rn, rx, re⟩, err))) :
    Calls Tryz.prog 38 #[.agg #[.bool na, .slice A1 n1 c1, .int .i64 ea], .agg #[.bool nb, .slice A2 n2 c2, .int .i64 eb]] w (RDx w rn rx re err) := by
  have hr := HR.out
  rw [addS_err hm] at hr
  injection hr with hr he'
  injection hr with i1' i2' i3'
  subst i1' i2' i3' he'
  obtain ⟨ma, hma⟩ : ∃ b, D.may ⟨na, x, ea⟩ = b := ⟨_, rfl⟩
  obtain ⟨mb, hmb⟩ : ∃ b, D.may ⟨nb, y, eb⟩ = b := ⟨_, rfl⟩
  rw [hma, hmb] at hm
  have MA := Lib.hid hma
  have MB := Lib.hid hmb
  clear hma hmb HR
  cases ma
  · clear hm MB
    go_enter Tryz.func38, Tryz.ntmps38
    go_wp2_with fail
    obtain ⟨W, hW, z0, z1, z2, BW, sW⟩ := frame3 w 71 71 71 na A1 n1 c1 ea nb A2 n2 c2 eb false none 0 0 0
    rw [hW]
    clear hW
    refine (rmay_any false (h1.on BW) (by omega) MA.out).mono ?_
    rintro en w1 ⟨rfl, b⟩
    replace z0 := z0.on b
    replace z1 := z1.on b
    replace z2 := z2.on b
    replace BW := Below.step BW b
    clear b
    obtain ⟨p0, p1, p2, g0, g1, g2, hl3⟩ := z2.cells
    go_wp2_with fail
    refine bodyPost_ret (v := .tuple #[.agg #[.bool false, .slice none 0 0, .int .i64 0], .int .i64 3]) (by simp [results, Tryz.results38, go_sem, p0, p1, p2]) rfl ?_
    exact ⟨none, 0, 0, rfl, BR.none_ _, below_put3 BW (by omega) _ _ _⟩
  · cases mb
    · clear hm
      go_enter Tryz.func38, Tryz.ntmps38
      go_wp2_with fail
      obtain ⟨W, hW, z0, z1, z2, BW, sW⟩ := frame3 w 71 71 71 na A1 n1 c1 ea nb A2 n2 c2 eb false none 0 0 0
      rw [hW]
      clear hW
      refine (rmay_any true (h1.on BW) (by omega) MA.out).mono ?_
      rintro en w1 ⟨rfl, b⟩
      replace z0 := z0.on b
      replace z1 := z1.on b
      replace z2 := z2.on b
      replace BW := Below.step BW b
      clear b
      obtain ⟨p0, p1, p2, g0, g1, g2, hl1⟩ := z1.cells
      go_wp2_with fail
      refine (rmay_any false (h2.on BW) (by omega) MB.out).mono ?_
      rintro en w2 ⟨rfl, b⟩
      clear p0 p1 p2 g0 g1 g2
      replace z0 := z0.on b
      replace z1 := z1.on b
      replace z2 := z2.on b
      replace BW := Below.step BW b
      clear b
      obtain ⟨p0, p1, p2, g0, g1, g2, hl3⟩ := z2.cells
      go_wp2_with fail
      refine bodyPost_ret (v := .tuple #[.agg #[.bool false, .slice none 0 0, .int .i64 0], .int .i64 3]) (by simp [results, Tryz.results38, go_sem, p0, p1, p2]) rfl ?_
      exact ⟨none, 0, 0, rfl, BR.none_ _, below_put3 BW (by omega) _ _ _⟩
    · rcases hm with hm | hm <;> cases hm

set_option maxHeartbeats 4000000 in
theorem radd_left {A1 A2 : Option Addr} {n1 c1 n2 c2 x y : Nat} {na nb : Bool} {ea eb : Int} {w : World} (h1 : BR w A1 n1 c1 x) (h2 : BR w A2 n2 c2 y) (s1 : n1 ≤ 100000) (s2 : n2 ≤ 100000) (ma : D.may ⟨na, x, ea⟩ = true) (mb : D.may ⟨nb, y, eb⟩ = true) (hx : x = 0)
    {rn : Bool} {rx : Nat} {re err : Int} (HR : Hid (addS ⟨na, x, ea⟩ ⟨nb, y, eb⟩ = (⟨rn, rx, re⟩, err))) :
    Calls Tryz.prog 38 #[.agg #[.bool na, .slice A1 n1 c1, .int .i64 ea], .agg #[.bool nb, .slice A2 n2 c2, .int .i64 eb]] w (RDx w rn rx re err) := by
  have HTL : Hid (tld (D.pl ⟨nb, y, eb⟩) = (⟨rn, rx, re⟩, err)) := by
    show _ = _
    rw [← add_zero_left ma mb hx, ← addS_ok ma mb]
    exact HR.out
  obtain ⟨a1, a2, a3⟩ := (D.may_iff _).1 ma
  obtain ⟨b1, b2, b3⟩ := (D.may_iff _).1 mb
  simp only at a1 a2 a3 b1 b2 b3
  have MA := Lib.hid ma
  have MB := Lib.hid mb
  have hs1 := h1.size
  have hs2 := h2.size
  rw [← hs1] at a1
  rw [← hs2] at b1
  clear ma mb hs1 hs2
  subst hx
  obtain rfl : n1 = 0 := h1.size
  clear HR
  go_enter Tryz.func38, Tryz.ntmps38
  go_wp2_with fail
  obtain ⟨W, hW, z0, z1, z2, BW, sW⟩ := frame3 w 71 71 71 na A1 0 c1 ea nb A2 n2 c2 eb false none 0 0 0
  rw [hW]
  clear hW
  refine (rmay_any true (h1.on BW) (by omega) MA.out).mono ?_
  rintro en w1 ⟨rfl, b⟩
  replace z0 := z0.on b
  replace z1 := z1.on b
  replace z2 := z2.on b
  replace BW := Below.step BW b
  clear b
  obtain ⟨p0, p1, p2, g0, g1, g2, hl1⟩ := z1.cells
  go_wp2_with fail
  refine (rmay_any true (h2.on BW) (by omega) MB.out).mono ?_
  rintro en w2 ⟨rfl, b⟩
  clear p0 p1 p2 g0 g1 g2
  replace z0 := z0.on b
  replace z1 := z1.on b
  replace z2 := z2.on b
  replace BW := Below.step BW b
  clear b
  obtain ⟨p0, p1, p2, g0, g1, g2, hl1⟩ := z0.cells
  obtain ⟨q0, q1, q2, i0, i1, i2, hl2⟩ := z1.cells
  go_wp2_with fail
  refine (rtold_as (h2.on BW) (by omega) (by omega) (by omega) HTL.out).mono ?_
  rintro en w3 ⟨V2, v2, d2, rfl, rv2, b⟩
  clear p0 p1 p2 g0 g1 g2 q0 q1 q2 i0 i1 i2
  replace z2 := z2.on b
  replace BW := Below.step BW b
  clear b
  obtain ⟨p0, p1, p2, g0, g1, g2, hl3⟩ := z2.cells
  go_wp2_with fail
  refine bodyPost_ret (v := .tuple #[.agg #[.bool rn, .slice V2 v2 d2, .int .i64 re], .int .i64 err]) (by simp [results, Tryz.results38, go_sem, p0, p1, p2]) rfl ?_
  exact ⟨V2, v2, d2, rfl, z2.br tR rv2 _ _ _, below_put3 BW (by omega) _ _ _⟩

set_option maxHeartbeats 4000000 in
theorem radd_right {A1 A2 : Option Addr} {n1 c1 n2 c2 x y : Nat} {na nb : Bool} {ea eb : Int} {w : World} (h1 : BR w A1 n1 c1 x) (h2 : BR w A2 n2 c2 y) (s1 : n1 ≤ 100000) (s2 : n2 ≤ 100000) (ma : D.may ⟨na, x, ea⟩ = true) (mb : D.may ⟨nb, y, eb⟩ = true) (hx : x ≠ 0) (hy : y = 0)
    {rn : Bool} {rx : Nat} {re err : Int} (HR : Hid (addS ⟨na, x, ea⟩ ⟨nb, y, eb⟩ = (⟨rn, rx, re⟩, err))) :
    Calls Tryz.prog 38 #[.agg #[.bool na, .slice A1 n1 c1, .int .i64 ea], .agg #[.bool nb, .slice A2 n2 c2, .int .i64 eb]] w (RDx w rn rx re err) := by
  have HTL : Hid (tld (D.pl ⟨na, x, ea⟩) = (⟨rn, rx, re⟩, err)) := by
    show _ = _
    rw [← add_zero_right ma mb hy, ← addS_ok ma mb]
    exact HR.out
  have hnz1 : ((n1 : Int) == 0) = false := by have := (blen_pos hx).2; rw [← h1.size] at this; simp; omega
  obtain ⟨a1, a2, a3⟩ := (D.may_iff _).1 ma
  obtain ⟨b1, b2, b3⟩ := (D.may_iff _).1 mb
  simp only at a1 a2 a3 b1 b2 b3
  have MA := Lib.hid ma
  have MB := Lib.hid mb
  have hs1 := h1.size
  have hs2 := h2.size
  rw [← hs1] at a1
  rw [← hs2] at b1
  clear ma mb hs1 hs2
  subst hy
  obtain rfl : n2 = 0 := h2.size
  clear HR
  go_enter Tryz.func38, Tryz.ntmps38
  go_wp2_with fail
  obtain ⟨W, hW, z0, z1, z2, BW, sW⟩ := frame3 w 71 71 71 na A1 n1 c1 ea nb A2 0 c2 eb false none 0 0 0
  rw [hW]
  clear hW
  refine (rmay_any true (h1.on BW) (by omega) MA.out).mono ?_
  rintro en w1 ⟨rfl, b⟩
  replace z0 := z0.on b
  replace z1 := z1.on b
  replace z2 := z2.on b
  replace BW := Below.step BW b
  clear b
  obtain ⟨p0, p1, p2, g0, g1, g2, hl1⟩ := z1.cells
  go_wp2_with fail
  refine (rmay_any true (h2.on BW) (by omega) MB.out).mono ?_
  rintro en w2 ⟨rfl, b⟩
  clear p0 p1 p2 g0 g1 g2
  replace z0 := z0.on b
  replace z1 := z1.on b
  replace z2 := z2.on b
  replace BW := Below.step BW b
  clear b
  obtain ⟨p0, p1, p2, g0, g1, g2, hl1⟩ := z0.cells
  obtain ⟨q0, q1, q2, i0, i1, i2, hl2⟩ := z1.cells
  go_wp2_with fail
  refine (rtold_as (h1.on BW) (by omega) (by omega) (by omega) HTL.out).mono ?_
  rintro en w3 ⟨V2, v2, d2, rfl, rv2, b⟩
  clear p0 p1 p2 g0 g1 g2 q0 q1 q2 i0 i1 i2
  replace z2 := z2.on b
  replace BW := Below.step BW b
  clear b
  obtain ⟨p0, p1, p2, g0, g1, g2, hl3⟩ := z2.cells
  go_wp2_with fail
  refine bodyPost_ret (v := .tuple #[.agg #[.bool rn, .slice V2 v2 d2, .int .i64 re], .int .i64 err]) (by simp [results, Tryz.results38, go_sem, p0, p1, p2]) rfl ?_
  exact ⟨V2, v2, d2, rfl, z2.br tR rv2 _ _ _, below_put3 BW (by omega) _ _ _⟩

set_option maxHeartbeats 4000000 in
theorem radd_same {A1 A2 : Option Addr} {n1 c1 n2 c2 x y : Nat} {na nb : Bool} {ea eb : Int} {w : World} (h1 : BR w A1 n1 c1 x) (h2 : BR w A2 n2 c2 y) (s1 : n1 ≤ 100000) (s2 : n2 ≤ 100000) (ma : D.may ⟨na, x, ea⟩ = true) (mb : D.may ⟨nb, y, eb⟩ = true) (hx : x ≠ 0) (hy : y ≠ 0) {m : Int} {i j : Nat} (hm : min ea eb = m) (hi : ea - m = (i : Int)) (hj : eb - m = (j : Int)) (hn : na = nb)
    {rn : Bool} {rx : Nat} {re err : Int} (HR : Hid (addS ⟨na, x, ea⟩ ⟨nb, y, eb⟩ = (⟨rn, rx, re⟩, err))) :
    Calls Tryz.prog 38 #[.agg #[.bool na, .slice A1 n1 c1, .int .i64 ea], .agg #[.bool nb, .slice A2 n2 c2, .int .i64 eb]] w (RDx w rn rx re err) := by
  have hnz1 : ((n1 : Int) == 0) = false := by have := (blen_pos hx).2; rw [← h1.size] at this; simp; omega
  have hnz2 : ((n2 : Int) == 0) = false := by have := (blen_pos hy).2; rw [← h2.size] at this; simp; omega
  have f1 : blen (x * 2 ^ i) ≤ 30000 := by rw [blen_shift hx, ← h1.size]; have := ((D.may_iff _).1 ma).1; simp only at this; rw [← h1.size] at this; have := ((D.may_iff _).1 ma).2; have := ((D.may_iff _).1 mb).2; simp only at *; omega
  have f2 : blen (y * 2 ^ j) ≤ 30000 := by rw [blen_shift hy, ← h2.size]; have := ((D.may_iff _).1 mb).1; simp only at this; rw [← h2.size] at this; have := ((D.may_iff _).1 ma).2; have := ((D.may_iff _).1 mb).2; simp only at *; omega
  have HTL : Hid (tld (D.pl ⟨na, x * 2 ^ i + y * 2 ^ j, m⟩) = (⟨rn, rx, re⟩, err)) := by
    show _ = _
    rw [add_low_ref ma mb hm hi hj (n := na) (u := x * 2 ^ i + y * 2 ^ j) (by subst hn; exact sz_both), ← addS_ok ma mb]
    exact HR.out
  have hf := Nat.le_trans (blen_add (x * 2 ^ i) (y * 2 ^ j)) (show _ ≤ 70000 by omega)
  obtain ⟨a1, a2, a3⟩ := (D.may_iff _).1 ma
  obtain ⟨b1, b2, b3⟩ := (D.may_iff _).1 mb
  simp only at a1 a2 a3 b1 b2 b3
  have MA := Lib.hid ma
  have MB := Lib.hid mb
  have hs1 := h1.size
  have hs2 := h2.size
  rw [← hs1] at a1
  rw [← hs2] at b1
  clear ma mb hs1 hs2
  have HI : Hid (max (ea - m) 0 = (i : Int)) := by show _ = _; omega
  have HJ : Hid (max (eb - m) 0 = (j : Int)) := by show _ = _; omega
  have m1 : -8192 ≤ m := by omega
  have m2 : m ≤ 8192 := by omega
  clear HR hx hy hi hj
  subst hn
  go_enter Tryz.func38, Tryz.ntmps38
  go_wp2_with fail
  obtain ⟨W, hW, z0, z1, z2, BW, sW⟩ := frame3 w 71 71 71 na A1 n1 c1 ea na A2 n2 c2 eb false none 0 0 0
  rw [hW]
  clear hW
  refine (rmay_any true (h1.on BW) (by omega) MA.out).mono ?_
  rintro en w1 ⟨rfl, b⟩
  replace z0 := z0.on b
  replace z1 := z1.on b
  replace z2 := z2.on b
  replace BW := Below.step BW b
  clear b
  obtain ⟨p0, p1, p2, g0, g1, g2, hl1⟩ := z1.cells
  go_wp2_with fail
  refine (rmay_any true (h2.on BW) (by omega) MB.out).mono ?_
  rintro en w2 ⟨rfl, b⟩
  clear p0 p1 p2 g0 g1 g2
  replace z0 := z0.on b
  replace z1 := z1.on b
  replace z2 := z2.on b
  replace BW := Below.step BW b
  clear b
  obtain ⟨p0, p1, p2, g0, g1, g2, hl1⟩ := z0.cells
  obtain ⟨q0, q1, q2, i0, i1, i2, hl2⟩ := z1.cells
  go_wp2_with fail
  refine (at_any (h1.on BW) (by omega) (by omega) (by omega) (by omega) (by omega) HI).mono ?_
  rintro en w3 ⟨X1, l1, k1, rfl, t1, b⟩
  clear p0 p1 p2 g0 g1 g2 q0 q1 q2 i0 i1 i2
  replace z0 := z0.on b
  replace z1 := z1.on b
  replace z2 := z2.on b
  replace BW := Below.step BW b
  clear b
  obtain ⟨p0, p1, p2, g0, g1, g2, hl1⟩ := z0.cells
  obtain ⟨q0, q1, q2, i0, i1, i2, hl2⟩ := z1.cells
  go_wp2_with fail
  refine (at_any (h2.on BW) (by omega) (by omega) (by omega) (by omega) (by omega) HJ).mono ?_
  rintro en w4 ⟨X2, l2, k2, rfl, t2, b⟩
  clear p0 p1 p2 g0 g1 g2 q0 q1 q2 i0 i1 i2
  replace z0 := z0.on b
  replace z1 := z1.on b
  replace z2 := z2.on b
  replace t1 := t1.on b
  replace BW := Below.step BW b
  clear b
  have hl1 := t1.le f1
  have hl2 := t2.le f2
  generalize x * 2 ^ i = X at *
  generalize y * 2 ^ j = Y at *
  obtain ⟨p0, p1, p2, g0, g1, g2, hl1⟩ := z0.cells
  obtain ⟨q0, q1, q2, i0, i1, i2, hl2⟩ := z1.cells
  go_wp2_with fail
  clear p0 p1 p2 g0 g1 g2 q0 q1 q2 i0 i1 i2
  have HS : Hid (∀ w', DB w' w.heap.size 71 na A1 n1 c1 ea → w'.cell? ⟨w.heap.size, 0, none⟩ = some (.bool na)) := fun w' h => h.cells.1
  have d5 : Below w4.heap.size w4 w4.drew := (Below.refl _ _).drew
  have ka : DB w4.drew w.heap.size 71 na A1 n1 c1 ea := z0.on d5
  have HB := Lib.hid (Below.step BW d5)
  have T1 := Lib.hid (t1.on d5)
  have T2 := Lib.hid (t2.on d5)
  have Z2 := Lib.hid (z2.on d5)
  clear t1 t2 z0 z1 z2 BW d5
  go_region_held3 (fun w' => w'.cell? ⟨w.heap.size, 0, none⟩ = some (.bool na))
    ((refine HS.out _ ?_; first | (with_reducible assumption) | ((with_reducible refine Box.other ?_ ?_ _ _ _) <;> first | (with_reducible assumption) | omega)))
    (first
      | (go_at_call 63
         refine (radd_any T1.out T2.out (by omega) (by omega)).mono ?_
         rintro e w6 ⟨V, v, d, rfl, rv, b6⟩
         have ka := ka.on b6
         have HB := Lib.hid (Below.step HB.out b6)
         have Z2 := Lib.hid (Z2.out.on b6)
         have hv := rv.le hf
         have RV := Lib.hid rv
         clear rv b6)
      | (go_at_call 60
         refine (rtold_as RV.out (by omega) (by omega) (by omega) HTL.out).mono ?_
         rintro e w7 ⟨V2, v2, d2, rfl, rv2, b7⟩
         have ka := ka.on b7
         have HB := Lib.hid (Below.step HB.out b7)
         have Z2 := Lib.hid (Z2.out.on b7)
         have RV2 := Lib.hid rv2
         obtain ⟨p0, p1, p2, g0, g1, g2, _⟩ := Z2.out.cells
         clear rv2 b7))
  go_wp2_with fail
  refine bodyPost_ret (v := .tuple #[.agg #[.bool rn, .slice V2 v2 d2, .int .i64 re], .int .i64 err]) (by simp [results, Tryz.results38, go_sem, p0, p1, p2]) rfl ?_
  exact ⟨V2, v2, d2, rfl, Z2.out.br tR RV2.out _ _ _, below_put3 HB.out (by omega) _ _ _⟩

set_option maxHeartbeats 4000000 in
theorem radd_ge {A1 A2 : Option Addr} {n1 c1 n2 c2 x y : Nat} {na nb : Bool} {ea eb : Int} {w : World} (h1 : BR w A1 n1 c1 x) (h2 : BR w A2 n2 c2 y) (s1 : n1 ≤ 100000) (s2 : n2 ≤ 100000) (ma : D.may ⟨na, x, ea⟩ = true) (mb : D.may ⟨nb, y, eb⟩ = true) (hx : x ≠ 0) (hy : y ≠ 0) {m : Int} {i j : Nat} (hm : min ea eb = m) (hi : ea - m = (i : Int)) (hj : eb - m = (j : Int)) (hn : (na == nb) = false) (hle : y * 2 ^ j ≤ x * 2 ^ i)
    {rn : Bool} {rx : Nat} {re err : Int} (HR : Hid (addS ⟨na, x, ea⟩ ⟨nb, y, eb⟩ = (⟨rn, rx, re⟩, err))) :
    Calls Tryz.prog 38 #[.agg #[.bool na, .slice A1 n1 c1, .int .i64 ea], .agg #[.bool nb, .slice A2 n2 c2, .int .i64 eb]] w (RDx w rn rx re err) := by
  have hnz1 : ((n1 : Int) == 0) = false := by have := (blen_pos hx).2; rw [← h1.size] at this; simp; omega
  have hnz2 : ((n2 : Int) == 0) = false := by have := (blen_pos hy).2; rw [← h2.size] at this; simp; omega
  have f1 : blen (x * 2 ^ i) ≤ 30000 := by rw [blen_shift hx, ← h1.size]; have := ((D.may_iff _).1 ma).1; simp only at this; rw [← h1.size] at this; have := ((D.may_iff _).1 ma).2; have := ((D.may_iff _).1 mb).2; simp only at *; omega
  have f2 : blen (y * 2 ^ j) ≤ 30000 := by rw [blen_shift hy, ← h2.size]; have := ((D.may_iff _).1 mb).1; simp only at this; rw [← h2.size] at this; have := ((D.may_iff _).1 ma).2; have := ((D.may_iff _).1 mb).2; simp only at *; omega
  have HTL : Hid (tld (D.pl ⟨na, x * 2 ^ i - y * 2 ^ j, m⟩) = (⟨rn, rx, re⟩, err)) := by
    show _ = _
    rw [add_low_ref ma mb hm hi hj (n := na) (u := x * 2 ^ i - y * 2 ^ j) (sz_sub hn hle), ← addS_ok ma mb]
    exact HR.out
  have hf := Nat.le_trans (blen_le_of (Nat.sub_le (x * 2 ^ i) (y * 2 ^ j))) (show _ ≤ 70000 by omega)
  have hc := cmpI_nn hle
  obtain ⟨a1, a2, a3⟩ := (D.may_iff _).1 ma
  obtain ⟨b1, b2, b3⟩ := (D.may_iff _).1 mb
  simp only at a1 a2 a3 b1 b2 b3
  have MA := Lib.hid ma
  have MB := Lib.hid mb
  have hs1 := h1.size
  have hs2 := h2.size
  rw [← hs1] at a1
  rw [← hs2] at b1
  clear ma mb hs1 hs2
  have HI : Hid (max (ea - m) 0 = (i : Int)) := by show _ = _; omega
  have HJ : Hid (max (eb - m) 0 = (j : Int)) := by show _ = _; omega
  have m1 : -8192 ≤ m := by omega
  have m2 : m ≤ 8192 := by omega
  clear HR hx hy hi hj
  go_enter Tryz.func38, Tryz.ntmps38
  go_wp2_with fail
  obtain ⟨W, hW, z0, z1, z2, BW, sW⟩ := frame3 w 71 71 71 na A1 n1 c1 ea nb A2 n2 c2 eb false none 0 0 0
  rw [hW]
  clear hW
  refine (rmay_any true (h1.on BW) (by omega) MA.out).mono ?_
  rintro en w1 ⟨rfl, b⟩
  replace z0 := z0.on b
  replace z1 := z1.on b
  replace z2 := z2.on b
  replace BW := Below.step BW b
  clear b
  obtain ⟨p0, p1, p2, g0, g1, g2, hl1⟩ := z1.cells
  go_wp2_with fail
  refine (rmay_any true (h2.on BW) (by omega) MB.out).mono ?_
  rintro en w2 ⟨rfl, b⟩
  clear p0 p1 p2 g0 g1 g2
  replace z0 := z0.on b
  replace z1 := z1.on b
  replace z2 := z2.on b
  replace BW := Below.step BW b
  clear b
  obtain ⟨p0, p1, p2, g0, g1, g2, hl1⟩ := z0.cells
  obtain ⟨q0, q1, q2, i0, i1, i2, hl2⟩ := z1.cells
  go_wp2_with fail
  refine (at_any (h1.on BW) (by omega) (by omega) (by omega) (by omega) (by omega) HI).mono ?_
  rintro en w3 ⟨X1, l1, k1, rfl, t1, b⟩
  clear p0 p1 p2 g0 g1 g2 q0 q1 q2 i0 i1 i2
  replace z0 := z0.on b
  replace z1 := z1.on b
  replace z2 := z2.on b
  replace BW := Below.step BW b
  clear b
  obtain ⟨p0, p1, p2, g0, g1, g2, hl1⟩ := z0.cells
  obtain ⟨q0, q1, q2, i0, i1, i2, hl2⟩ := z1.cells
  go_wp2_with fail
  refine (at_any (h2.on BW) (by omega) (by omega) (by omega) (by omega) (by omega) HJ).mono ?_
  rintro en w4 ⟨X2, l2, k2, rfl, t2, b⟩
  clear p0 p1 p2 g0 g1 g2 q0 q1 q2 i0 i1 i2
  replace z0 := z0.on b
  replace z1 := z1.on b
  replace z2 := z2.on b
  replace t1 := t1.on b
  replace BW := Below.step BW b
  clear b
  have hl1 := t1.le f1
  have hl2 := t2.le f2
  generalize x * 2 ^ i = X at *
  generalize y * 2 ^ j = Y at *
  obtain ⟨p0, p1, p2, g0, g1, g2, hl1⟩ := z0.cells
  obtain ⟨q0, q1, q2, i0, i1, i2, hl2⟩ := z1.cells
  go_wp2_with fail
  refine (rcmp_any t1 t2 (by omega) (by omega)).mono ?_
  rintro en w5 ⟨rfl, rfl⟩
  go_wp2_with fail
  clear p0 p1 p2 g0 g1 g2 q0 q1 q2 i0 i1 i2
  have HS : Hid (∀ w', DB w' w.heap.size 71 na A1 n1 c1 ea → w'.cell? ⟨w.heap.size, 0, none⟩ = some (.bool na)) := fun w' h => h.cells.1
  have d5 : Below w4.heap.size w4 w4.drew := (Below.refl _ _).drew
  have ka : DB w4.drew w.heap.size 71 na A1 n1 c1 ea := z0.on d5
  have HB := Lib.hid (Below.step BW d5)
  have T1 := Lib.hid (t1.on d5)
  have T2 := Lib.hid (t2.on d5)
  have Z2 := Lib.hid (z2.on d5)
  clear t1 t2 z0 z1 z2 BW d5
  go_region_held3 (fun w' => w'.cell? ⟨w.heap.size, 0, none⟩ = some (.bool na))
    ((refine HS.out _ ?_; first | (with_reducible assumption) | ((with_reducible refine Box.other ?_ ?_ _ _ _) <;> first | (with_reducible assumption) | omega)))
    (first
      | (go_at_call 65
         refine (rsub_any T1.out T2.out (by omega) (by omega) hle).mono ?_
         rintro e w6 ⟨V, v, d, rfl, rv, b6⟩
         have ka := ka.on b6
         have HB := Lib.hid (Below.step HB.out b6)
         have Z2 := Lib.hid (Z2.out.on b6)
         have hv := rv.le hf
         have RV := Lib.hid rv
         clear rv b6)
      | (go_at_call 60
         refine (rtold_as RV.out (by omega) (by omega) (by omega) HTL.out).mono ?_
         rintro e w7 ⟨V2, v2, d2, rfl, rv2, b7⟩
         have ka := ka.on b7
         have HB := Lib.hid (Below.step HB.out b7)
         have Z2 := Lib.hid (Z2.out.on b7)
         have RV2 := Lib.hid rv2
         obtain ⟨p0, p1, p2, g0, g1, g2, _⟩ := Z2.out.cells
         clear rv2 b7))
  go_wp2_with fail
  refine bodyPost_ret (v := .tuple #[.agg #[.bool rn, .slice V2 v2 d2, .int .i64 re], .int .i64 err]) (by simp [results, Tryz.results38, go_sem, p0, p1, p2]) rfl ?_
  exact ⟨V2, v2, d2, rfl, Z2.out.br tR RV2.out _ _ _, below_put3 HB.out (by omega) _ _ _⟩

set_option maxHeartbeats 4000000 in
theorem radd_lt {A1 A2 : Option Addr} {n1 c1 n2 c2 x y : Nat} {na nb : Bool} {ea eb : Int} {w : World} (h1 : BR w A1 n1 c1 x) (h2 : BR w A2 n2 c2 y) (s1 : n1 ≤ 100000) (s2 : n2 ≤ 100000) (ma : D.may ⟨na, x, ea⟩ = true) (mb : D.may ⟨nb, y, eb⟩ = true) (hx : x ≠ 0) (hy : y ≠ 0) {m : Int} {i j : Nat} (hm : min ea eb = m) (hi : ea - m = (i : Int)) (hj : eb - m = (j : Int)) (hn : (na == nb) = false) (hle : x * 2 ^ i < y * 2 ^ j)
    {rn : Bool} {rx : Nat} {re err : Int} (HR : Hid (addS ⟨na, x, ea⟩ ⟨nb, y, eb⟩ = (⟨rn, rx, re⟩, err))) :
    Calls Tryz.prog 38 #[.agg #[.bool na, .slice A1 n1 c1, .int .i64 ea], .agg #[.bool nb, .slice A2 n2 c2, .int .i64 eb]] w (RDx w rn rx re err) := by
  have hnz1 : ((n1 : Int) == 0) = false := by have := (blen_pos hx).2; rw [← h1.size] at this; simp; omega
  have hnz2 : ((n2 : Int) == 0) = false := by have := (blen_pos hy).2; rw [← h2.size] at this; simp; omega
  have f1 : blen (x * 2 ^ i) ≤ 30000 := by rw [blen_shift hx, ← h1.size]; have := ((D.may_iff _).1 ma).1; simp only at this; rw [← h1.size] at this; have := ((D.may_iff _).1 ma).2; have := ((D.may_iff _).1 mb).2; simp only at *; omega
  have f2 : blen (y * 2 ^ j) ≤ 30000 := by rw [blen_shift hy, ← h2.size]; have := ((D.may_iff _).1 mb).1; simp only at this; rw [← h2.size] at this; have := ((D.may_iff _).1 ma).2; have := ((D.may_iff _).1 mb).2; simp only at *; omega
  have HTL : Hid (tld (D.pl ⟨nb, y * 2 ^ j - x * 2 ^ i, m⟩) = (⟨rn, rx, re⟩, err)) := by
    show _ = _
    rw [add_low_ref ma mb hm hi hj (n := nb) (u := y * 2 ^ j - x * 2 ^ i) (sz_sub2 hn (Nat.le_of_lt hle)), ← addS_ok ma mb]
    exact HR.out
  have hf := Nat.le_trans (blen_le_of (Nat.sub_le (y * 2 ^ j) (x * 2 ^ i))) (show _ ≤ 70000 by omega)
  have hc := cmpI_neg hle
  obtain ⟨a1, a2, a3⟩ := (D.may_iff _).1 ma
  obtain ⟨b1, b2, b3⟩ := (D.may_iff _).1 mb
  simp only at a1 a2 a3 b1 b2 b3
  have MA := Lib.hid ma
  have MB := Lib.hid mb
  have hs1 := h1.size
  have hs2 := h2.size
  rw [← hs1] at a1
  rw [← hs2] at b1
  clear ma mb hs1 hs2
  have HI : Hid (max (ea - m) 0 = (i : Int)) := by show _ = _; omega
  have HJ : Hid (max (eb - m) 0 = (j : Int)) := by show _ = _; omega
  have m1 : -8192 ≤ m := by omega
  have m2 : m ≤ 8192 := by omega
  clear HR hx hy hi hj
  go_enter Tryz.func38, Tryz.ntmps38
  go_wp2_with fail
  obtain ⟨W, hW, z0, z1, z2, BW, sW⟩ := frame3 w 71 71 71 na A1 n1 c1 ea nb A2 n2 c2 eb false none 0 0 0
  rw [hW]
  clear hW
  refine (rmay_any true (h1.on BW) (by omega) MA.out).mono ?_
  rintro en w1 ⟨rfl, b⟩
  replace z0 := z0.on b
  replace z1 := z1.on b
  replace z2 := z2.on b
  replace BW := Below.step BW b
  clear b
  obtain ⟨p0, p1, p2, g0, g1, g2, hl1⟩ := z1.cells
  go_wp2_with fail
  refine (rmay_any true (h2.on BW) (by omega) MB.out).mono ?_
  rintro en w2 ⟨rfl, b⟩
  clear p0 p1 p2 g0 g1 g2
  replace z0 := z0.on b
  replace z1 := z1.on b
  replace z2 := z2.on b
  replace BW := Below.step BW b
  clear b
  obtain ⟨p0, p1, p2, g0, g1, g2, hl1⟩ := z0.cells
  obtain ⟨q0, q1, q2, i0, i1, i2, hl2⟩ := z1.cells
  go_wp2_with fail
  refine (at_any (h1.on BW) (by omega) (by omega) (by omega) (by omega) (by omega) HI).mono ?_
  rintro en w3 ⟨X1, l1, k1, rfl, t1, b⟩
  clear p0 p1 p2 g0 g1 g2 q0 q1 q2 i0 i1 i2
  replace z0 := z0.on b
  replace z1 := z1.on b
  replace z2 := z2.on b
  replace BW := Below.step BW b
  clear b
  obtain ⟨p0, p1, p2, g0, g1, g2, hl1⟩ := z0.cells
  obtain ⟨q0, q1, q2, i0, i1, i2, hl2⟩ := z1.cells
  go_wp2_with fail
  refine (at_any (h2.on BW) (by omega) (by omega) (by omega) (by omega) (by omega) HJ).mono ?_
  rintro en w4 ⟨X2, l2, k2, rfl, t2, b⟩
  clear p0 p1 p2 g0 g1 g2 q0 q1 q2 i0 i1 i2
  replace z0 := z0.on b
  replace z1 := z1.on b
  replace z2 := z2.on b
  replace t1 := t1.on b
  replace BW := Below.step BW b
  clear b
  have hl1 := t1.le f1
  have hl2 := t2.le f2
  generalize x * 2 ^ i = X at *
  generalize y * 2 ^ j = Y at *
  obtain ⟨p0, p1, p2, g0, g1, g2, hl1⟩ := z0.cells
  obtain ⟨q0, q1, q2, i0, i1, i2, hl2⟩ := z1.cells
  go_wp2_with fail
  refine (rcmp_any t1 t2 (by omega) (by omega)).mono ?_
  rintro en w5 ⟨rfl, rfl⟩
  go_wp2_with fail
  clear p0 p1 p2 g0 g1 g2 q0 q1 q2 i0 i1 i2
  have HS : Hid (∀ w', DB w' (w.heap.size + 1) 71 nb A2 n2 c2 eb → w'.cell? ⟨(w.heap.size + 1), 0, none⟩ = some (.bool nb)) := fun w' h => h.cells.1
  have d5 : Below w4.heap.size w4 w4.drew := (Below.refl _ _).drew
  have ka : DB w4.drew (w.heap.size + 1) 71 nb A2 n2 c2 eb := z1.on d5
  have HB := Lib.hid (Below.step BW d5)
  have T1 := Lib.hid (t1.on d5)
  have T2 := Lib.hid (t2.on d5)
  have Z2 := Lib.hid (z2.on d5)
  clear t1 t2 z0 z1 z2 BW d5
  go_region_held3 (fun w' => w'.cell? ⟨(w.heap.size + 1), 0, none⟩ = some (.bool nb))
    ((refine HS.out _ ?_; first | (with_reducible assumption) | ((with_reducible refine Box.other ?_ ?_ _ _ _) <;> first | (with_reducible assumption) | omega)))
    (first
      | (go_at_call 65
         refine (rsub_any T2.out T1.out (by omega) (by omega) (by omega)).mono ?_
         rintro e w6 ⟨V, v, d, rfl, rv, b6⟩
         have ka := ka.on b6
         have HB := Lib.hid (Below.step HB.out b6)
         have Z2 := Lib.hid (Z2.out.on b6)
         have hv := rv.le hf
         have RV := Lib.hid rv
         clear rv b6)
      | (go_at_call 60
         refine (rtold_as RV.out (by omega) (by omega) (by omega) HTL.out).mono ?_
         rintro e w7 ⟨V2, v2, d2, rfl, rv2, b7⟩
         have ka := ka.on b7
         have HB := Lib.hid (Below.step HB.out b7)
         have Z2 := Lib.hid (Z2.out.on b7)
         have RV2 := Lib.hid rv2
         obtain ⟨p0, p1, p2, g0, g1, g2, _⟩ := Z2.out.cells
         clear rv2 b7))
  go_wp2_with fail
  refine bodyPost_ret (v := .tuple #[.agg #[.bool rn, .slice V2 v2 d2, .int .i64 re], .int .i64 err]) (by simp [results, Tryz.results38, go_sem, p0, p1, p2]) rfl ?_
  exact ⟨V2, v2, d2, rfl, Z2.out.br tR RV2.out _ _ _, below_put3 HB.out (by omega) _ _ _⟩

/-- the reference's Add tells the sum, or why there is none. -/
theorem rAdd_as {A1 A2 : Option Addr} {n1 c1 n2 c2 x y : Nat} {na nb : Bool} {ea eb : Int} {w : World} (h1 : BR w A1 n1 c1 x) (h2 : BR w A2 n2 c2 y) (s1 : n1 ≤ 100000) (s2 : n2 ≤ 100000) {rn : Bool} {rx : Nat} {re err : Int} (HR : Hid (addS ⟨na, x, ea⟩ ⟨nb, y, eb⟩ = (⟨rn, rx, re⟩, err))) :
    Calls Tryz.prog 38 #[.agg #[.bool na, .slice A1 n1 c1, .int .i64 ea], .agg #[.bool nb, .slice A2 n2 c2, .int .i64 eb]] w (RDx w rn rx re err) := by
  by_cases ma : D.may ⟨na, x, ea⟩ = true
  · by_cases mb : D.may ⟨nb, y, eb⟩ = true
    · by_cases hx : x = 0
      · exact radd_left h1 h2 s1 s2 ma mb hx HR
      · by_cases hy : y = 0
        · exact radd_right h1 h2 s1 s2 ma mb hx hy HR
        · obtain ⟨m, hm⟩ : ∃ m, min ea eb = m := ⟨_, rfl⟩
          obtain ⟨i, hi⟩ := Int.eq_ofNat_of_zero_le (show 0 ≤ ea - m by omega)
          obtain ⟨j, hj⟩ := Int.eq_ofNat_of_zero_le (show 0 ≤ eb - m by omega)
          by_cases hn : na = nb
          · exact radd_same h1 h2 s1 s2 ma mb hx hy hm hi hj hn HR
          · have hn : (na == nb) = false := by simpa using hn
            rcases Nat.lt_or_ge (x * 2 ^ i) (y * 2 ^ j) with hle | hle
            · exact radd_lt h1 h2 s1 s2 ma mb hx hy hm hi hj hn hle HR
            · exact radd_ge h1 h2 s1 s2 ma mb hx hy hm hi hj hn hle HR
    · exact radd_err h1 h2 s1 s2 (.inr (by simpa using mb)) HR
  · exact radd_err h1 h2 s1 s2 (.inl (by simpa using ma)) HR
end Go.Proofs.YtpachoeignpcbaaGreatDoor
