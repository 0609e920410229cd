
/-
  The reference's Mul, Cmp, Floor.
-/
import Derived.Test.YtpachoeignpcbaaGreatDoorRc
namespace Go.Proofs.YtpachoeignpcbaaGreatDoor
open Go.RowKit
set_option linter.unusedVariables false

set_option maxHeartbeats 4000000 in
theorem rmul_err {A1 A2 : Option Addr} {n1 c1 n2 c2 x y : Nat} {na nb : Bool} {ea eb : Int} {w : World} (h1 : BR w A1 n1 c1 x) (h2 : BR w A2 n2 c2 y) (s1 : n1 ≤ 100000) (s2 : n2 ≤ 100000) (hm : D.may ⟨na, x, ea⟩ = false ∨ D.may ⟨nb, y, eb⟩ = false)
    {rn : Bool} {rx : Nat} {re err : Int} (HR : Hid (mulS ⟨na, x, ea⟩ ⟨nb, y, eb⟩ = (⟨rn, rx, re⟩, err))) :
    Calls Tryz.prog 37 #[.agg #[.bool na, .slice A1 n1 c1, .int .i64 ea], .agg #[.bool nb, .slice A2 n2 c2, .int .i64 eb]] w (RDx w rn rx re err) := by
  have hr := HR.out
  rw [mulS_err hm] at hr
  injection hr with hr he'
  injection hr with i1' i2' i3'
  subst i1' i2' i3' he'
  obtain ⟨ma, hma⟩ : ∃ b, D.may ⟨na, x, ea⟩ = b := ⟨_, rfl⟩
  obtain ⟨mb, hmb⟩ : ∃ b, D.may ⟨nb, y, eb⟩ = b := ⟨_, rfl⟩
  rw [hma, hmb] at hm
  have MA := Lib.hid hma
  have MB := Lib.hid hmb
  clear hma hmb HR
  cases ma
  · clear hm MB
    go_enter Tryz.func37, Tryz.ntmps37
    go_wp2_with fail
    obtain ⟨W, hW, z0, z1, z2, BW, sW⟩ := frame3 w 71 71 71 na A1 n1 c1 ea nb A2 n2 c2 eb false none 0 0 0
    rw [hW]
    clear hW
    refine (rmay_any false (h1.on BW) (by omega) MA.out).mono ?_
    rintro en w1 ⟨rfl, b⟩
    replace z0 := z0.on b
    replace z1 := z1.on b
    replace z2 := z2.on b
    replace BW := Below.step BW b
    clear b
    obtain ⟨p0, p1, p2, g0, g1, g2, hl3⟩ := z2.cells
    go_wp2_with fail
    refine bodyPost_ret (v := .tuple #[.agg #[.bool false, .slice none 0 0, .int .i64 0], .int .i64 3]) (by simp [results, Tryz.results37, go_sem, p0, p1, p2]) rfl ?_
    exact ⟨none, 0, 0, rfl, BR.none_ _, below_put3 BW (by omega) _ _ _⟩
  · cases mb
    · clear hm
      go_enter Tryz.func37, Tryz.ntmps37
      go_wp2_with fail
      obtain ⟨W, hW, z0, z1, z2, BW, sW⟩ := frame3 w 71 71 71 na A1 n1 c1 ea nb A2 n2 c2 eb false none 0 0 0
      rw [hW]
      clear hW
      refine (rmay_any true (h1.on BW) (by omega) MA.out).mono ?_
      rintro en w1 ⟨rfl, b⟩
      replace z0 := z0.on b
      replace z1 := z1.on b
      replace z2 := z2.on b
      replace BW := Below.step BW b
      clear b
      obtain ⟨p0, p1, p2, g0, g1, g2, hl1⟩ := z1.cells
      go_wp2_with fail
      refine (rmay_any false (h2.on BW) (by omega) MB.out).mono ?_
      rintro en w2 ⟨rfl, b⟩
      clear p0 p1 p2 g0 g1 g2
      replace z0 := z0.on b
      replace z1 := z1.on b
      replace z2 := z2.on b
      replace BW := Below.step BW b
      clear b
      obtain ⟨p0, p1, p2, g0, g1, g2, hl3⟩ := z2.cells
      go_wp2_with fail
      refine bodyPost_ret (v := .tuple #[.agg #[.bool false, .slice none 0 0, .int .i64 0], .int .i64 3]) (by simp [results, Tryz.results37, go_sem, p0, p1, p2]) rfl ?_
      exact ⟨none, 0, 0, rfl, BR.none_ _, below_put3 BW (by omega) _ _ _⟩
    · rcases hm with hm | hm <;> cases hm

set_option maxHeartbeats 4000000 in
theorem rmul_ok {A1 A2 : Option Addr} {n1 c1 n2 c2 x y : Nat} {na nb : Bool} {ea eb : Int} {w : World} (h1 : BR w A1 n1 c1 x) (h2 : BR w A2 n2 c2 y) (s1 : n1 ≤ 100000) (s2 : n2 ≤ 100000) (ma : D.may ⟨na, x, ea⟩ = true) (mb : D.may ⟨nb, y, eb⟩ = true)
    {rn : Bool} {rx : Nat} {re err : Int} (HR : Hid (mulS ⟨na, x, ea⟩ ⟨nb, y, eb⟩ = (⟨rn, rx, re⟩, err))) :
    Calls Tryz.prog 37 #[.agg #[.bool na, .slice A1 n1 c1, .int .i64 ea], .agg #[.bool nb, .slice A2 n2 c2, .int .i64 eb]] w (RDx w rn rx re err) := by
  have HTL : Hid (tld (D.pl ⟨na != nb, x * y, ea + eb⟩) = (⟨rn, rx, re⟩, err)) := by
    show tld (D.mul ⟨na, x, ea⟩ ⟨nb, y, eb⟩) = _
    rw [← mulS_ok ma mb]
    exact HR.out
  have hf := blen_mul x y
  obtain ⟨a1, a2, a3⟩ := (D.may_iff _).1 ma
  obtain ⟨b1, b2, b3⟩ := (D.may_iff _).1 mb
  simp only at a1 a2 a3 b1 b2 b3
  have MA := Lib.hid ma
  have MB := Lib.hid mb
  have hs1 := h1.size
  have hs2 := h2.size
  rw [← hs1] at a1
  rw [← hs2] at b1
  rw [← hs1, ← hs2] at hf
  have hf2 : blen (x * y) ≤ 10000 := by omega
  have q9 : IntKind.i64.wrap (ea + eb) = ea + eb := IntWalk.i64_in _ (by omega)
  clear HR hs1 hs2 ma mb hf
  go_enter Tryz.func37, Tryz.ntmps37
  go_wp2_with fail
  obtain ⟨W, hW, z0, z1, z2, BW, sW⟩ := frame3 w 71 71 71 na A1 n1 c1 ea nb A2 n2 c2 eb false none 0 0 0
  rw [hW]
  clear hW
  refine (rmay_any true (h1.on BW) (by omega) MA.out).mono ?_
  rintro en w1 ⟨rfl, b⟩
  replace z0 := z0.on b
  replace z1 := z1.on b
  replace z2 := z2.on b
  replace BW := Below.step BW b
  clear b
  obtain ⟨p0, p1, p2, g0, g1, g2, hl1⟩ := z1.cells
  go_wp2_with fail
  refine (rmay_any true (h2.on BW) (by omega) MB.out).mono ?_
  rintro en w2 ⟨rfl, b⟩
  clear p0 p1 p2 g0 g1 g2
  replace z0 := z0.on b
  replace z1 := z1.on b
  replace z2 := z2.on b
  replace BW := Below.step BW b
  clear b
  go_wp2_with fail
  have HS : Hid (∀ w', DB w' w.heap.size 71 na A1 n1 c1 ea ∧ DB w' (w.heap.size + 1) 71 nb A2 n2 c2 eb → w'.cell? ⟨w.heap.size, 0, none⟩ = some (.bool na) ∧ w'.cell? ⟨w.heap.size, 1, none⟩ = some (.slice A1 n1 c1) ∧ w'.cell? ⟨w.heap.size, 2, none⟩ = some (.int .i64 ea) ∧ w'.cell? ⟨w.heap.size + 1, 0, none⟩ = some (.bool nb) ∧ w'.cell? ⟨w.heap.size + 1, 1, none⟩ = some (.slice A2 n2 c2) ∧ w'.cell? ⟨w.heap.size + 1, 2, none⟩ = some (.int .i64 eb)) := fun w' h => ⟨h.1.cells.1, h.1.cells.2.1, h.1.cells.2.2.1, h.2.cells.1, h.2.cells.2.1, h.2.cells.2.2.1⟩
  have d5 : Below w2.heap.size w2 w2.drew := (Below.refl _ _).drew
  have kb : DB w2.drew w.heap.size 71 na A1 n1 c1 ea ∧ DB w2.drew (w.heap.size + 1) 71 nb A2 n2 c2 eb := ⟨z0.on d5, z1.on d5⟩
  have HB := Lib.hid (Below.step BW d5)
  have Z2 := Lib.hid (z2.on d5)
  clear z0 z1 z2 BW d5
  go_region_held3 (fun w' => w'.cell? ⟨w.heap.size, 0, none⟩ = some (.bool na) ∧ w'.cell? ⟨w.heap.size, 1, none⟩ = some (.slice A1 n1 c1) ∧ w'.cell? ⟨w.heap.size, 2, none⟩ = some (.int .i64 ea) ∧ w'.cell? ⟨w.heap.size + 1, 0, none⟩ = some (.bool nb) ∧ w'.cell? ⟨w.heap.size + 1, 1, none⟩ = some (.slice A2 n2 c2) ∧ w'.cell? ⟨w.heap.size + 1, 2, none⟩ = some (.int .i64 eb))
    ((refine HS.out _ ?_; first | (with_reducible assumption) | (refine And.intro ?_ ?_ <;> (with_reducible refine Box.other ?_ ?_ _ _ _) <;> first | (with_reducible exact kb.1) | (with_reducible exact kb.2) | omega)))
    (first
      | (go_at_call 61
         refine (rmul_any (h1.on HB.out) (h2.on HB.out) (by omega) (by omega)).mono ?_
         rintro e w6 ⟨V, v, d, rfl, rv, b6⟩
         have kb := And.intro (kb.1.on b6) (kb.2.on b6)
         have HB := Lib.hid (Below.step HB.out b6)
         have Z2 := Lib.hid (Z2.out.on b6)
         have hv := rv.le hf2
         have RV := Lib.hid rv
         clear rv b6)
      | (go_at_call 60
         refine (rtold_as RV.out (by omega) (by omega) (by omega) HTL.out).mono ?_
         rintro e w7 ⟨V2, v2, d2, rfl, rv2, b7⟩
         have kb := And.intro (kb.1.on b7) (kb.2.on b7)
         have HB := Lib.hid (Below.step HB.out b7)
         have Z2 := Lib.hid (Z2.out.on b7)
         have RV2 := Lib.hid rv2
         obtain ⟨p0, p1, p2, g0, g1, g2, _⟩ := Z2.out.cells
         clear rv2 b7))
  go_wp2_with fail
  refine bodyPost_ret (v := .tuple #[.agg #[.bool rn, .slice V2 v2 d2, .int .i64 re], .int .i64 err]) (by simp [results, Tryz.results37, go_sem, p0, p1, p2]) rfl ?_
  exact ⟨V2, v2, d2, rfl, Z2.out.br tR RV2.out _ _ _, below_put3 HB.out (by omega) _ _ _⟩

theorem rMul_as {A1 A2 : Option Addr} {n1 c1 n2 c2 x y : Nat} {na nb : Bool} {ea eb : Int} {w : World} (h1 : BR w A1 n1 c1 x) (h2 : BR w A2 n2 c2 y) (s1 : n1 ≤ 100000) (s2 : n2 ≤ 100000) {rn : Bool} {rx : Nat} {re err : Int} (HR : Hid (mulS ⟨na, x, ea⟩ ⟨nb, y, eb⟩ = (⟨rn, rx, re⟩, err))) :
    Calls Tryz.prog 37 #[.agg #[.bool na, .slice A1 n1 c1, .int .i64 ea], .agg #[.bool nb, .slice A2 n2 c2, .int .i64 eb]] w (RDx w rn rx re err) := by
  by_cases ma : D.may ⟨na, x, ea⟩ = true
  · by_cases mb : D.may ⟨nb, y, eb⟩ = true
    · exact rmul_ok h1 h2 s1 s2 ma mb HR
    · exact rmul_err h1 h2 s1 s2 (.inr (by simpa using mb)) HR
  · exact rmul_err h1 h2 s1 s2 (.inl (by simpa using ma)) HR

theorem rcmp_as {A1 A2 : Option Addr} {n1 c1 n2 c2 x y : Nat} {w : World} (k : Int) (h1 : BR w A1 n1 c1 x) (h2 : BR w A2 n2 c2 y) (s1 : n1 ≤ 1000000) (s2 : n2 ≤ 1000000) (hk : cmpI (x : Int) (y : Int) = k) :
    Calls Tryz.prog 64 #[.slice A1 n1 c1, .slice A2 n2 c2] w fun e w' => e = .returned (.int .i64 k) ∧ w = w' := by
  subst hk; exact rcmp_any h1 h2 s1 s2
/-- what the reference's Cmp reckons. -/
theorem vl_sgn {n : Bool} {x : Nat} {e : Int} (h : x ≠ 0) : if n then (⟨n, x, e⟩ : D).vl < 0 else 0 < (⟨n, x, e⟩ : D).vl := by
  have h1 := D.vl_neg (d := ⟨n, x, e⟩)
  have h2 := D.vl_zero (d := ⟨n, x, e⟩)
  simp only at h1 h2
  cases n
  · have : ¬ (⟨false, x, e⟩ : D).vl < 0 := fun h => by have := (h1.1 h).1; cases this
    have : (⟨false, x, e⟩ : D).vl ≠ 0 := fun e => h (h2.1 e)
    show 0 < _
    omega
  · exact h1.2 ⟨rfl, h⟩
theorem cmp_shift_ref {n : Bool} {x y i j : Nat} {ea eb m : Int} (hm : -40000 ≤ m) (hi : ea - m = (i : Int)) (hj : eb - m = (j : Int)) : cmpI (⟨n, x, ea⟩ : D).vl (⟨n, y, eb⟩ : D).vl = if n then -cmpI ((x * 2 ^ i : Nat) : Int) ((y * 2 ^ j : Nat) : Int) else cmpI ((x * 2 ^ i : Nat) : Int) ((y * 2 ^ j : Nat) : Int) := by
  rw [D.vl_ab, D.vl_ab, ab_at hm hi, ab_at hm hj, cmp_scale (x * 2 ^ i) (y * 2 ^ j) (m + 40000).toNat]
  generalize x * 2 ^ i * 2 ^ (m + 40000).toNat = X
  generalize y * 2 ^ j * 2 ^ (m + 40000).toNat = Y
  cases n
  · rfl
  · show cmpI (-(X : Int)) (-(Y : Int)) = -cmpI (X : Int) (Y : Int)
    unfold cmpI
    rcases Int.lt_trichotomy (X : Int) (Y : Int) with h | h | h
    · rw [if_neg (by omega), if_pos (by omega), if_pos h]; rfl
    · rw [if_neg (by omega), if_neg (by omega), if_neg (by omega), if_neg (by omega)]; rfl
    · rw [if_pos (by omega), if_neg (by omega), if_pos h]

set_option maxHeartbeats 4000000 in
theorem rcmp_err {A1 A2 : Option Addr} {n1 c1 n2 c2 x y : Nat} {na nb : Bool} {ea eb : Int} {w : World} (h1 : BR w A1 n1 c1 x) (h2 : BR w A2 n2 c2 y) (s1 : n1 ≤ 100000) (s2 : n2 ≤ 100000) (hm : D.may ⟨na, x, ea⟩ = false ∨ D.may ⟨nb, y, eb⟩ = false) {q err : Int} (HR : Hid (cmpS ⟨na, x, ea⟩ ⟨nb, y, eb⟩ = (q, err))) :
    Calls Tryz.prog 69 #[.agg #[.bool na, .slice A1 n1 c1, .int .i64 ea], .agg #[.bool nb, .slice A2 n2 c2, .int .i64 eb]] w fun en w' => en = .returned (.tuple #[.int .i64 q, .int .i64 err]) ∧ Below w.heap.size w w' := by
  have hr := HR.out
  rw [cmpS_err hm] at hr
  injection hr with h1' h2'
  subst h1' h2'
  obtain ⟨ma, hma⟩ : ∃ b, D.may ⟨na, x, ea⟩ = b := ⟨_, rfl⟩
  obtain ⟨mb, hmb⟩ : ∃ b, D.may ⟨nb, y, eb⟩ = b := ⟨_, rfl⟩
  rw [hma, hmb] at hm
  have MA := Lib.hid hma
  have MB := Lib.hid hmb
  clear hma hmb HR
  cases ma
  · clear hm MB
    go_enter Tryz.func69, Tryz.ntmps69
    go_wp2_with fail
    obtain ⟨W, hW, z0, z1, BW, sW⟩ := frame2 w 71 71 na A1 n1 c1 ea nb A2 n2 c2 eb
    rw [hW]
    clear hW
    refine (rmay_any false (h1.on BW) (by omega) MA.out).mono ?_
    rintro en w1 ⟨rfl, b⟩
    replace z0 := z0.on b
    replace z1 := z1.on b
    replace BW := Below.step BW b
    clear b
    go_wp2_with fail
    go_ret2
    exact ⟨rfl, BW⟩
  · cases mb
    · clear hm
      go_enter Tryz.func69, Tryz.ntmps69
      go_wp2_with fail
      obtain ⟨W, hW, z0, z1, BW, sW⟩ := frame2 w 71 71 na A1 n1 c1 ea nb A2 n2 c2 eb
      rw [hW]
      clear hW
      refine (rmay_any true (h1.on BW) (by omega) MA.out).mono ?_
      rintro en w1 ⟨rfl, b⟩
      replace z0 := z0.on b
      replace z1 := z1.on b
      replace BW := Below.step BW b
      clear b
      obtain ⟨p0, p1, p2, g0, g1, g2, hl1⟩ := z1.cells
      go_wp2_with fail
      refine (rmay_any false (h2.on BW) (by omega) MB.out).mono ?_
      rintro en w2 ⟨rfl, b⟩
      clear p0 p1 p2 g0 g1 g2
      replace z0 := z0.on b
      replace z1 := z1.on b
      replace BW := Below.step BW b
      clear b
      go_wp2_with fail
      go_ret2
      exact ⟨rfl, BW⟩
    · rcases hm with hm | hm <;> cases hm

set_option maxHeartbeats 4000000 in
theorem rcmp_zero {A1 A2 : Option Addr} {n1 c1 n2 c2 x y : Nat} {na nb : Bool} {ea eb : Int} {w : World} (h1 : BR w A1 n1 c1 x) (h2 : BR w A2 n2 c2 y) (s1 : n1 ≤ 100000) (s2 : n2 ≤ 100000) (ma : D.may ⟨na, x, ea⟩ = true) (mb : D.may ⟨nb, y, eb⟩ = true) (hx : x = 0) {q err : Int} (HR : Hid (cmpS ⟨na, x, ea⟩ ⟨nb, y, eb⟩ = (q, err))) :
    Calls Tryz.prog 69 #[.agg #[.bool na, .slice A1 n1 c1, .int .i64 ea], .agg #[.bool nb, .slice A2 n2 c2, .int .i64 eb]] w fun en w' => en = .returned (.tuple #[.int .i64 q, .int .i64 err]) ∧ Below w.heap.size w w' := by
  have hr := HR.out
  rw [cmpS_ok ma mb, D.vl_zero.2 (show (⟨na, x, ea⟩ : D).x = 0 from hx)] at hr
  injection hr with h1' h2'
  obtain ⟨a1, a2, a3⟩ := (D.may_iff _).1 ma
  obtain ⟨b1, b2, b3⟩ := (D.may_iff _).1 mb
  simp only at a1 a2 a3 b1 b2 b3
  have MA := Lib.hid ma
  have MB := Lib.hid mb
  have hs1 := h1.size
  have hs2 := h2.size
  rw [← hs1] at a1
  rw [← hs2] at b1
  subst hx h2'
  obtain rfl : n1 = 0 := hs1
  clear HR ma mb
  by_cases hy : y = 0
  · subst hy
    obtain rfl : n2 = 0 := hs2
    rw [D.vl_zero.2 rfl] at h1'
    have h1' : q = 0 := h1'.symm
    subst h1'
    go_enter Tryz.func69, Tryz.ntmps69
    go_wp2_with fail
    obtain ⟨W, hW, z0, z1, BW, sW⟩ := frame2 w 71 71 na A1 0 c1 ea nb A2 0 c2 eb
    rw [hW]
    clear hW
    refine (rmay_any true (h1.on BW) (by omega) MA.out).mono ?_
    rintro en w1 ⟨rfl, b⟩
    replace z0 := z0.on b
    replace z1 := z1.on b
    replace BW := Below.step BW b
    clear b
    obtain ⟨p0, p1, p2, g0, g1, g2, hl1⟩ := z1.cells
    go_wp2_with fail
    refine (rmay_any true (h2.on BW) (by omega) MB.out).mono ?_
    rintro en w2 ⟨rfl, b⟩
    clear p0 p1 p2 g0 g1 g2
    replace z0 := z0.on b
    replace z1 := z1.on b
    replace BW := Below.step BW b
    clear b
    obtain ⟨p0, p1, p2, g0, g1, g2, hl1⟩ := z0.cells
    obtain ⟨q0, q1, q2, i0, i1, i2, hl2⟩ := z1.cells
    go_wp2_with fail
    go_ret2
    exact ⟨rfl, BW⟩
  · have hnz2 : ((n2 : Int) == 0) = false := by have := (blen_pos hy).2; rw [← hs2] at this; simp; omega
    have hv := vl_sgn (n := nb) (e := eb) hy
    cases nb
    · have h1' : q = -1 := by
        rw [← h1']
        have hv : 0 < (⟨false, y, eb⟩ : D).vl := hv
        unfold cmpI
        rw [if_pos hv]
      subst h1'
      clear hs2 hv
      go_enter Tryz.func69, Tryz.ntmps69
      go_wp2_with fail
      obtain ⟨W, hW, z0, z1, BW, sW⟩ := frame2 w 71 71 na A1 0 c1 ea false A2 n2 c2 eb
      rw [hW]
      clear hW
      refine (rmay_any true (h1.on BW) (by omega) MA.out).mono ?_
      rintro en w1 ⟨rfl, b⟩
      replace z0 := z0.on b
      replace z1 := z1.on b
      replace BW := Below.step BW b
      clear b
      obtain ⟨p0, p1, p2, g0, g1, g2, hl1⟩ := z1.cells
      go_wp2_with fail
      refine (rmay_any true (h2.on BW) (by omega) MB.out).mono ?_
      rintro en w2 ⟨rfl, b⟩
      clear p0 p1 p2 g0 g1 g2
      replace z0 := z0.on b
      replace z1 := z1.on b
      replace BW := Below.step BW b
      clear b
      obtain ⟨p0, p1, p2, g0, g1, g2, hl1⟩ := z0.cells
      obtain ⟨q0, q1, q2, i0, i1, i2, hl2⟩ := z1.cells
      go_wp2_with fail
      go_ret2
      exact ⟨rfl, BW⟩
    · have h1' : q = 1 := by
        rw [← h1']
        have hv : (⟨true, y, eb⟩ : D).vl < 0 := hv
        unfold cmpI
        rw [if_neg (by omega), if_pos hv]
      subst h1'
      clear hs2 hv
      go_enter Tryz.func69, Tryz.ntmps69
      go_wp2_with fail
      obtain ⟨W, hW, z0, z1, BW, sW⟩ := frame2 w 71 71 na A1 0 c1 ea true A2 n2 c2 eb
      rw [hW]
      clear hW
      refine (rmay_any true (h1.on BW) (by omega) MA.out).mono ?_
      rintro en w1 ⟨rfl, b⟩
      replace z0 := z0.on b
      replace z1 := z1.on b
      replace BW := Below.step BW b
      clear b
      obtain ⟨p0, p1, p2, g0, g1, g2, hl1⟩ := z1.cells
      go_wp2_with fail
      refine (rmay_any true (h2.on BW) (by omega) MB.out).mono ?_
      rintro en w2 ⟨rfl, b⟩
      clear p0 p1 p2 g0 g1 g2
      replace z0 := z0.on b
      replace z1 := z1.on b
      replace BW := Below.step BW b
      clear b
      obtain ⟨p0, p1, p2, g0, g1, g2, hl1⟩ := z0.cells
      obtain ⟨q0, q1, q2, i0, i1, i2, hl2⟩ := z1.cells
      go_wp2_with fail
      go_ret2
      exact ⟨rfl, BW⟩

set_option maxHeartbeats 4000000 in
set_option maxRecDepth 100000 in
theorem rcmp_far {A1 A2 : Option Addr} {n1 c1 n2 c2 x y : Nat} {na nb : Bool} {ea eb : Int} {w : World} (h1 : BR w A1 n1 c1 x) (h2 : BR w A2 n2 c2 y) (s1 : n1 ≤ 100000) (s2 : n2 ≤ 100000) (ma : D.may ⟨na, x, ea⟩ = true) (mb : D.may ⟨nb, y, eb⟩ = true) (hx : x ≠ 0) (hf : y = 0 ∨ (y ≠ 0 ∧ (na == nb) = false)) {q err : Int} (HR : Hid (cmpS ⟨na, x, ea⟩ ⟨nb, y, eb⟩ = (q, err))) :
    Calls Tryz.prog 69 #[.agg #[.bool na, .slice A1 n1 c1, .int .i64 ea], .agg #[.bool nb, .slice A2 n2 c2, .int .i64 eb]] w fun en w' => en = .returned (.tuple #[.int .i64 q, .int .i64 err]) ∧ Below w.heap.size w w' := by
  have hr := HR.out
  rw [cmpS_ok ma mb] at hr
  injection hr with h1' h2'
  have hnz1 : ((n1 : Int) == 0) = false := by have := (blen_pos hx).2; rw [← h1.size] at this; simp; omega
  have hv := vl_sgn (n := na) (e := ea) hx
  have hq : q = if na then -1 else 1 := by
    rw [← h1']
    rcases hf with hf | ⟨hf, hn⟩
    · rw [D.vl_zero.2 (show (⟨nb, y, eb⟩ : D).x = 0 from hf)]
      unfold cmpI
      cases na
      · have hv : 0 < (⟨false, x, ea⟩ : D).vl := hv
        rw [if_neg (by omega), if_pos hv]; rfl
      · have hv : (⟨true, x, ea⟩ : D).vl < 0 := hv
        rw [if_pos hv]; rfl
    · have hw := vl_sgn (n := nb) (e := eb) hf
      unfold cmpI
      cases na <;> cases nb <;> simp at hn
      · have hv : 0 < (⟨false, x, ea⟩ : D).vl := hv
        have hw : (⟨true, y, eb⟩ : D).vl < 0 := hw
        rw [if_neg (by omega), if_pos (by omega)]; rfl
      · have hv : (⟨true, x, ea⟩ : D).vl < 0 := hv
        have hw : 0 < (⟨false, y, eb⟩ : D).vl := hw
        rw [if_pos (by omega)]; rfl
  obtain ⟨a1, a2, a3⟩ := (D.may_iff _).1 ma
  obtain ⟨b1, b2, b3⟩ := (D.may_iff _).1 mb
  simp only at a1 a2 a3 b1 b2 b3
  have MA := Lib.hid ma
  have MB := Lib.hid mb
  have hs1 := h1.size
  have hs2 := h2.size
  rw [← hs1] at a1
  rw [← hs2] at b1
  subst h2'
  clear HR ma mb h1' hv
  have hy2 : (n2 = 0) ∨ (0 < n2 ∧ (na == nb) = false) := by
    rcases hf with hf | ⟨hf, hn⟩
    · left; rw [hs2, hf]; rfl
    · right; exact ⟨by rw [hs2]; exact (blen_pos hf).2, hn⟩
  clear hf hs1 hs2 hx
  rcases hy2 with hy2 | ⟨hy2, hn⟩
  · subst hy2
    cases na
    · have hq : q = 1 := hq
      subst hq
      go_enter Tryz.func69, Tryz.ntmps69
      go_wp2_with fail
      obtain ⟨W, hW, z0, z1, BW, sW⟩ := frame2 w 71 71 false A1 n1 c1 ea nb A2 0 c2 eb
      rw [hW]
      clear hW
      refine (rmay_any true (h1.on BW) (by omega) MA.out).mono ?_
      rintro en w1 ⟨rfl, b⟩
      replace z0 := z0.on b
      replace z1 := z1.on b
      replace BW := Below.step BW b
      clear b
      obtain ⟨p0, p1, p2, g0, g1, g2, hl1⟩ := z1.cells
      go_wp2_with fail
      refine (rmay_any true (h2.on BW) (by omega) MB.out).mono ?_
      rintro en w2 ⟨rfl, b⟩
      clear p0 p1 p2 g0 g1 g2
      replace z0 := z0.on b
      replace z1 := z1.on b
      replace BW := Below.step BW b
      clear b
      obtain ⟨p0, p1, p2, g0, g1, g2, hl1⟩ := z0.cells
      obtain ⟨q0, q1, q2, i0, i1, i2, hl2⟩ := z1.cells
      go_wp2_with fail
      go_ret2
      exact ⟨rfl, BW⟩
    · have HQ := Lib.hid (show q = -1 from hq)
      clear hq
      go_enter Tryz.func69, Tryz.ntmps69
      go_wp2_with fail
      obtain ⟨W, hW, z0, z1, BW, sW⟩ := frame2 w 71 71 true A1 n1 c1 ea nb A2 0 c2 eb
      rw [hW]
      clear hW
      refine (rmay_any true (h1.on BW) (by omega) MA.out).mono ?_
      rintro en w1 ⟨rfl, b⟩
      replace z0 := z0.on b
      replace z1 := z1.on b
      replace BW := Below.step BW b
      clear b
      obtain ⟨p0, p1, p2, g0, g1, g2, hl1⟩ := z1.cells
      go_wp2_with fail
      refine (rmay_any true (h2.on BW) (by omega) MB.out).mono ?_
      rintro en w2 ⟨rfl, b⟩
      clear p0 p1 p2 g0 g1 g2
      replace z0 := z0.on b
      replace z1 := z1.on b
      replace BW := Below.step BW b
      clear b
      obtain ⟨p0, p1, p2, g0, g1, g2, hl1⟩ := z0.cells
      obtain ⟨q0, q1, q2, i0, i1, i2, hl2⟩ := z1.cells
      go_wp2_with fail
      go_ret2
      exact ⟨ret2_int (by rw [HQ.out]) rfl, BW⟩
  · cases na
    · have hq : q = 1 := hq
      obtain rfl : nb = true := by simpa using hn
      subst hq
      go_enter Tryz.func69, Tryz.ntmps69
      go_wp2_with fail
      obtain ⟨W, hW, z0, z1, BW, sW⟩ := frame2 w 71 71 false A1 n1 c1 ea true A2 n2 c2 eb
      rw [hW]
      clear hW
      refine (rmay_any true (h1.on BW) (by omega) MA.out).mono ?_
      rintro en w1 ⟨rfl, b⟩
      replace z0 := z0.on b
      replace z1 := z1.on b
      replace BW := Below.step BW b
      clear b
      obtain ⟨p0, p1, p2, g0, g1, g2, hl1⟩ := z1.cells
      go_wp2_with fail
      refine (rmay_any true (h2.on BW) (by omega) MB.out).mono ?_
      rintro en w2 ⟨rfl, b⟩
      clear p0 p1 p2 g0 g1 g2
      replace z0 := z0.on b
      replace z1 := z1.on b
      replace BW := Below.step BW b
      clear b
      obtain ⟨p0, p1, p2, g0, g1, g2, hl1⟩ := z0.cells
      obtain ⟨q0, q1, q2, i0, i1, i2, hl2⟩ := z1.cells
      go_wp2_with fail
      go_ret2
      exact ⟨rfl, BW⟩
    · have HQ := Lib.hid (show q = -1 from hq)
      clear hq
      obtain rfl : nb = false := by simpa using hn
      go_enter Tryz.func69, Tryz.ntmps69
      go_wp2_with fail
      obtain ⟨W, hW, z0, z1, BW, sW⟩ := frame2 w 71 71 true A1 n1 c1 ea false A2 n2 c2 eb
      rw [hW]
      clear hW
      refine (rmay_any true (h1.on BW) (by omega) MA.out).mono ?_
      rintro en w1 ⟨rfl, b⟩
      replace z0 := z0.on b
      replace z1 := z1.on b
      replace BW := Below.step BW b
      clear b
      obtain ⟨p0, p1, p2, g0, g1, g2, hl1⟩ := z1.cells
      go_wp2_with fail
      refine (rmay_any true (h2.on BW) (by omega) MB.out).mono ?_
      rintro en w2 ⟨rfl, b⟩
      clear p0 p1 p2 g0 g1 g2
      replace z0 := z0.on b
      replace z1 := z1.on b
      replace BW := Below.step BW b
      clear b
      obtain ⟨p0, p1, p2, g0, g1, g2, hl1⟩ := z0.cells
      obtain ⟨q0, q1, q2, i0, i1, i2, hl2⟩ := z1.cells
      go_wp2_with fail
      go_ret2
      exact ⟨ret2_int (by rw [HQ.out]) rfl, BW⟩

set_option maxHeartbeats 4000000 in
theorem rcmp_near {A1 A2 : Option Addr} {n1 c1 n2 c2 x y : Nat} {na nb : Bool} {ea eb : Int} {w : World} (h1 : BR w A1 n1 c1 x) (h2 : BR w A2 n2 c2 y) (s1 : n1 ≤ 100000) (s2 : n2 ≤ 100000) (ma : D.may ⟨na, x, ea⟩ = true) (mb : D.may ⟨nb, y, eb⟩ = true) (hx : x ≠ 0) (hy : y ≠ 0) (hn : na = nb) {q err : Int} (HR : Hid (cmpS ⟨na, x, ea⟩ ⟨nb, y, eb⟩ = (q, err))) :
    Calls Tryz.prog 69 #[.agg #[.bool na, .slice A1 n1 c1, .int .i64 ea], .agg #[.bool nb, .slice A2 n2 c2, .int .i64 eb]] w fun en w' => en = .returned (.tuple #[.int .i64 q, .int .i64 err]) ∧ Below w.heap.size w w' := by
  subst hn
  have hr := HR.out
  rw [cmpS_ok ma mb] at hr
  injection hr with h1' h2'
  have hnz1 : ((n1 : Int) == 0) = false := by have := (blen_pos hx).2; rw [← h1.size] at this; simp; omega
  have hnz2 : ((n2 : Int) == 0) = false := by have := (blen_pos hy).2; rw [← h2.size] at this; simp; omega
  have hp2 : 0 < n2 := by rw [h2.size]; exact (blen_pos hy).2
  obtain ⟨a1, a2, a3⟩ := (D.may_iff _).1 ma
  obtain ⟨b1, b2, b3⟩ := (D.may_iff _).1 mb
  simp only at a1 a2 a3 b1 b2 b3
  have MA := Lib.hid ma
  have MB := Lib.hid mb
  have hs1 := h1.size
  have hs2 := h2.size
  rw [← hs1] at a1
  rw [← hs2] at b1
  obtain ⟨m, hm⟩ : ∃ m, min ea eb = m := ⟨_, rfl⟩
  obtain ⟨i, hi⟩ := Int.eq_ofNat_of_zero_le (show 0 ≤ ea - m by omega)
  obtain ⟨j, hj⟩ := Int.eq_ofNat_of_zero_le (show 0 ≤ eb - m by omega)
  have f1 : blen (x * 2 ^ i) ≤ 30000 := by rw [blen_shift hx, ← hs1]; omega
  have f2 : blen (y * 2 ^ j) ≤ 30000 := by rw [blen_shift hy, ← hs2]; omega
  rw [cmp_shift_ref (m := m) (by omega) hi hj] at h1'
  obtain ⟨k1, k2⟩ := cmpI_bd ((x * 2 ^ i : Nat) : Int) ((y * 2 ^ j : Nat) : Int)
  obtain ⟨k, hk⟩ : ∃ k, cmpI ((x * 2 ^ i : Nat) : Int) ((y * 2 ^ j : Nat) : Int) = k := ⟨_, rfl⟩
  rw [hk] at k1 k2 h1'
  have HK := Lib.hid hk
  have HI : Hid (max (ea - m) 0 = (i : Int)) := by show _ = _; omega
  have HJ : Hid (max (eb - m) 0 = (j : Int)) := by show _ = _; omega
  have m1 : -8192 ≤ m := by omega
  have m2 : m ≤ 8192 := by omega
  subst h2'
  clear HR ma mb hs1 hs2 hx hy hi hj hk
  go_enter Tryz.func69, Tryz.ntmps69
  go_wp2_with fail
  obtain ⟨W, hW, z0, z1, BW, sW⟩ := frame2 w 71 71 na A1 n1 c1 ea na A2 n2 c2 eb
  rw [hW]
  clear hW
  refine (rmay_any true (h1.on BW) (by omega) MA.out).mono ?_
  rintro en w1 ⟨rfl, b⟩
  replace z0 := z0.on b
  replace z1 := z1.on b
  replace BW := Below.step BW b
  clear b
  obtain ⟨p0, p1, p2, g0, g1, g2, hl1⟩ := z1.cells
  go_wp2_with fail
  refine (rmay_any true (h2.on BW) (by omega) MB.out).mono ?_
  rintro en w2 ⟨rfl, b⟩
  clear p0 p1 p2 g0 g1 g2
  replace z0 := z0.on b
  replace z1 := z1.on b
  replace BW := Below.step BW b
  clear b
  obtain ⟨p0, p1, p2, g0, g1, g2, hl1⟩ := z0.cells
  obtain ⟨q0, q1, q2, i0, i1, i2, hl2⟩ := z1.cells
  go_wp2_with fail
  clear p0 p1 p2 g0 g1 g2 q0 q1 q2 i0 i1 i2
  have HS : Hid (∀ w', DB w' w.heap.size 71 na A1 n1 c1 ea ∧ DB w' (w.heap.size + 1) 71 na A2 n2 c2 eb → w'.cell? ⟨w.heap.size, 0, none⟩ = some (.bool na) ∧ w'.cell? ⟨w.heap.size, 1, none⟩ = some (.slice A1 n1 c1) ∧ w'.cell? ⟨w.heap.size, 2, none⟩ = some (.int .i64 ea) ∧ w'.cell? ⟨w.heap.size + 1, 0, none⟩ = some (.bool na) ∧ w'.cell? ⟨w.heap.size + 1, 1, none⟩ = some (.slice A2 n2 c2) ∧ w'.cell? ⟨w.heap.size + 1, 2, none⟩ = some (.int .i64 eb)) := fun w' h => ⟨h.1.cells.1, h.1.cells.2.1, h.1.cells.2.2.1, h.2.cells.1, h.2.cells.2.1, h.2.cells.2.2.1⟩
  have d5 : Below w2.heap.size w2 w2.drew := (Below.refl _ _).drew
  have kb : DB w2.drew w.heap.size 71 na A1 n1 c1 ea ∧ DB w2.drew (w.heap.size + 1) 71 na A2 n2 c2 eb := ⟨z0.on d5, z1.on d5⟩
  have HB := Lib.hid (Below.step BW d5)
  clear z0 z1 BW d5
  go_region_held3 (fun w' => w'.cell? ⟨w.heap.size, 0, none⟩ = some (.bool na) ∧ w'.cell? ⟨w.heap.size, 1, none⟩ = some (.slice A1 n1 c1) ∧ w'.cell? ⟨w.heap.size, 2, none⟩ = some (.int .i64 ea) ∧ w'.cell? ⟨w.heap.size + 1, 0, none⟩ = some (.bool na) ∧ w'.cell? ⟨w.heap.size + 1, 1, none⟩ = some (.slice A2 n2 c2) ∧ w'.cell? ⟨w.heap.size + 1, 2, none⟩ = some (.int .i64 eb))
    ((refine HS.out _ ?_; with_reducible assumption))
    (first
      | (go_at_call_of 62 (Value.agg #[.bool na, .slice A1 n1 c1, .int .i64 ea])
         refine (at_any (h1.on HB.out) (by omega) (by omega) (by omega) (by omega) (by omega) HI).mono ?_
         rintro e w6 ⟨V, v, d, rfl, rv, b6⟩
         have kb := And.intro (kb.1.on b6) (kb.2.on b6)
         have HB := Lib.hid (Below.step HB.out b6)
         have hv := rv.le f1
         have RV := Lib.hid rv
         clear rv b6)
      | (go_at_call_of 62 (Value.agg #[.bool na, .slice A2 n2 c2, .int .i64 eb])
         refine (at_any (h2.on HB.out) (by omega) (by omega) (by omega) (by omega) (by omega) HJ).mono ?_
         rintro e w7 ⟨V2, v2, d2, rfl, rv2, b7⟩
         have kb := And.intro (kb.1.on b7) (kb.2.on b7)
         have HB := Lib.hid (Below.step HB.out b7)
         have hv2 := rv2.le f2
         have RV := Lib.hid (RV.out.on b7)
         have RV2 := Lib.hid rv2
         clear rv2 b7)
      | (go_at_call 64
         refine (rcmp_as k RV.out RV2.out (by omega) (by omega) HK.out).mono ?_
         rintro e w8 ⟨rfl, rfl⟩))
  obtain ⟨p0, p1, p2, q0, q1, q2⟩ := HS.out _ kb
  cases na
  · have h1' : k = q := h1'
    subst h1'
    go_wp2_with fail
    go_ret2
    exact ⟨rfl, HB.out⟩
  · have h1' : -k = q := h1'
    subst h1'
    go_wp2_with fail
    go_ret2
    exact ⟨rfl, HB.out⟩

theorem rCmp_as {A1 A2 : Option Addr} {n1 c1 n2 c2 x y : Nat} {na nb : Bool} {ea eb : Int} {w : World} (h1 : BR w A1 n1 c1 x) (h2 : BR w A2 n2 c2 y) (s1 : n1 ≤ 100000) (s2 : n2 ≤ 100000) {q err : Int} (HR : Hid (cmpS ⟨na, x, ea⟩ ⟨nb, y, eb⟩ = (q, err))) :
    Calls Tryz.prog 69 #[.agg #[.bool na, .slice A1 n1 c1, .int .i64 ea], .agg #[.bool nb, .slice A2 n2 c2, .int .i64 eb]] w fun en w' => en = .returned (.tuple #[.int .i64 q, .int .i64 err]) ∧ Below w.heap.size w w' := by
  by_cases ma : D.may ⟨na, x, ea⟩ = true
  · by_cases mb : D.may ⟨nb, y, eb⟩ = true
    · by_cases hx : x = 0
      · exact rcmp_zero h1 h2 s1 s2 ma mb hx HR
      · by_cases hy : y = 0
        · exact rcmp_far h1 h2 s1 s2 ma mb hx (.inl hy) HR
        · by_cases hn : na = nb
          · exact rcmp_near h1 h2 s1 s2 ma mb hx hy hn HR
          · exact rcmp_far h1 h2 s1 s2 ma mb hx (.inr ⟨hy, by simpa using hn⟩) HR
    · exact rcmp_err h1 h2 s1 s2 (.inr (by simpa using mb)) HR
  · exact rcmp_err h1 h2 s1 s2 (.inl (by simpa using ma)) HR
end Go.Proofs.YtpachoeignpcbaaGreatDoor
