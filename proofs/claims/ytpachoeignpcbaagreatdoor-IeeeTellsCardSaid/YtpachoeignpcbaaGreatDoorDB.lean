/-
  A walk of dyad's Add.
  A walk of dyad's Add.
-/
import Derived.Test.YtpachoeignpcbaaGreatDoorDA
namespace Go.Proofs.YtpachoeignpcbaaGreatDoor
open Go.RowKit
set_option linter.unusedVariables false

set_option maxHeartbeats 4000000 in
theorem add_same {A1 A2 : Option Addr} {n1 c1 n2 c2 x y : Nat} {na nb : Bool} {ea eb : Int} {w : World} (h1 : Arg w A1 n1 c1 x) (h2 : Arg w A2 n2 c2 y) (s1 : n1 ≤ 30000) (s2 : n2 ≤ 30000) (hT : Tab w)
    (ma : D.may ⟨na, x, ea⟩ = true) (mb : D.may ⟨nb, y, eb⟩ = true) {an bn : Bool} {ax bx : Nat} {ae be : Int} (hpa : D.pl ⟨na, x, ea⟩ = ⟨an, ax, ae⟩) (hpb : D.pl ⟨nb, y, eb⟩ = ⟨bn, bx, be⟩)
    {m : Int} {i j : Nat} (hm : min ae be = m) (hi : ae - m = (i : Int)) (hj : be - m = (j : Int)) (f1 : blen ax + i ≤ 16384) (f2 : blen bx + j ≤ 16384) (hn : an = bn) :
    Calls Tryz.prog 44 #[.agg #[.bool na, .slice A1 n1 c1, .int .i64 ea], .agg #[.bool nb, .slice A2 n2 c2, .int .i64 eb]] w (DPost w (addS ⟨na, x, ea⟩ ⟨nb, y, eb⟩)) := by
  obtain ⟨a1, a2, a3, a4, a5⟩ := pl_bounds ma
  obtain ⟨b1, b2, b3, b4, b5⟩ := pl_bounds mb
  have HBP := Lib.hid (fun W (hW : Below w.heap.size w W) => both_plain (h1.on hW) (h2.on hW) s1 s2 (hT.on hW) ma mb)
  rw [hpa, hpb] at HBP
  rw [hpa] at a1 a2 a3 a4
  rw [hpb] at b1 b2 b3 b4
  simp only at a1 a2 a3 a4 b1 b2 b3 b4
  subst hn
  have HADD := Lib.hid (add_at_low ma mb (m := m) (i := i) (j := j) (by rw [hpa, hpb]; exact hm) (by rw [hpa]; exact hi) (by rw [hpb]; exact hj) (n := an) (u := ax * 2 ^ i + bx * 2 ^ j) (by rw [hpa, hpb]; unfold D.sz; cases an <;> simp; omega))
  have HTL := Lib.hid (addS_ok ma mb)
  rw [HTL.out, ← HADD.out]
  obtain ⟨⟨⟨rn, rx, re⟩, err⟩, hr⟩ : ∃ r, tld (D.pl ⟨an, ax * 2 ^ i + bx * 2 ^ j, m⟩) = r := ⟨_, rfl⟩
  rw [hr]
  have HR := Lib.hid hr
  clear hr HTL HADD ma mb hpa hpb
  go_enter Tryz.func44, Tryz.ntmps44
  go_wp2_with fail
  obtain ⟨W, hW, z0, z1, z2, BW, sW⟩ := frame3 w 48 48 48 na A1 n1 c1 ea nb A2 n2 c2 eb false none 0 0 0
  rw [hW]
  clear hW
  refine (HBP.out W BW).mono ?_
  rintro en w1 ⟨P1, k1, P2, k2, rfl, r1, r2, b⟩
  have z0 := z0.on b
  have z1 := z1.on b
  have z2 := z2.on b
  have BW := Below.step BW b
  have sW : w.heap.size + 3 ≤ w1.heap.size := by have := b.size; omega
  clear b HBP
  obtain ⟨p0, p1, p2, g0, g1, g2, _⟩ := z0.cells
  obtain ⟨q0, q1, q2, i0, i1, i2, _⟩ := z1.cells
  have hk1 := res_n_le r1 (k := 128) a1
  have hk2 := res_n_le r2 (k := 128) b1
  go_wp2_with fail
  clear p0 p1 p2 g0 g1 g2 q0 q1 q2 i0 i1 i2
  obtain ⟨w2, e1, e2⟩ := put3_named w1 w.heap.size (.bool an) (.slice P1 k1 k1) (.int .i64 ae)
  have r1 := z0.res r1 (.bool an) (.slice P1 k1 k1) (.int .i64 ae)
  have r2 := z0.res r2 (.bool an) (.slice P1 k1 k1) (.int .i64 ae)
  have z1 := z1.other (s := w.heap.size) (by omega) (.bool an) (.slice P1 k1 k1) (.int .i64 ae)
  have z2 := z2.other (s := w.heap.size) (by omega) (.bool an) (.slice P1 k1 k1) (.int .i64 ae)
  have z0 := z0.put_d an P1 k1 k1 ae
  have BW := below_put3 BW (Nat.le_refl _) (.bool an) (.slice P1 k1 k1) (.int .i64 ae)
  have sW : w.heap.size + 3 ≤ (put3 w1 w.heap.size (.bool an) (.slice P1 k1 k1) (.int .i64 ae)).heap.size := by rw [put3_size]; exact sW
  rw [e1]
  rw [e2] at r1 r2 z0 z1 z2 BW sW
  clear e1 e2
  obtain ⟨w3, e1, e2⟩ := put3_named w2 (w.heap.size + 1) (.bool an) (.slice P2 k2 k2) (.int .i64 be)
  have r1 := z1.res r1 (.bool an) (.slice P2 k2 k2) (.int .i64 be)
  have r2 := z1.res r2 (.bool an) (.slice P2 k2 k2) (.int .i64 be)
  have z0 := z0.other (s := w.heap.size + 1) (by omega) (.bool an) (.slice P2 k2 k2) (.int .i64 be)
  have z2 := z2.other (s := w.heap.size + 1) (by omega) (.bool an) (.slice P2 k2 k2) (.int .i64 be)
  have z1 := z1.put_d an P2 k2 k2 be
  have BW := below_put3 BW (by omega : w.heap.size ≤ w.heap.size + 1) (.bool an) (.slice P2 k2 k2) (.int .i64 be)
  have sW : w.heap.size + 3 ≤ (put3 w2 (w.heap.size + 1) (.bool an) (.slice P2 k2 k2) (.int .i64 be)).heap.size := by rw [put3_size]; exact sW
  rw [e1]
  rw [e2] at r1 r2 z0 z1 z2 BW sW
  clear e1 e2
  refine (aligned_ok (r1.arg (by omega)) (r2.arg (by omega)) (by omega) (by omega) (by omega) (by omega) (by omega) (by omega) m i j hm hi hj f1 f2).mono ?_
  rintro en w4 ⟨L1, u1, L2, u2, rfl, t1, t2, b⟩
  have z0 := z0.on b
  have z1 := z1.on b
  have z2 := z2.on b
  have BW := Below.step BW b
  have sW : w.heap.size + 3 ≤ w4.heap.size := by have := b.size; omega
  clear b r1 r2
  have hu1 := res_n_le t1 (k := 520) (fit_n _ _ (by assumption))
  have hu2 := res_n_le t2 (k := 520) (fit_n _ _ (by assumption))
  generalize ax * 2 ^ i = X at *
  generalize bx * 2 ^ j = Y at *
  obtain ⟨p0, p1, p2, g0, g1, g2, _⟩ := z0.cells
  obtain ⟨q0, q1, q2, i0, i1, i2, _⟩ := z1.cells
  go_wp2_with fail
  obtain ⟨w5, e5⟩ : ∃ w5, w4.alloc (.cells #[.slice L1 u1 u1, .slice L2 u2 u2] 107) = w5 := ⟨_, rfl⟩
  have b : Below w4.heap.size w4 w5 := e5 ▸ below_lit _ _
  have zs : Bx2 w5 w4.heap.size L1 u1 u1 L2 u2 u2 := e5 ▸ Bx2.made w4 L1 u1 u1 L2 u2 u2 rfl
  rw [e5]
  have t1 := t1.on b
  have t2 := t2.on b
  have z0 := z0.on b
  have z1 := z1.on b
  have z2 := z2.on b
  have BW := Below.step BW b
  have sW5 : w4.heap.size ≤ w5.heap.size := b.size
  clear b e5 p0 p1 p2 g0 g1 g2 q0 q1 q2 i0 i1 i2
  obtain ⟨g, hg⟩ : ∃ g, w4.heap.size = g := ⟨_, rfl⟩
  rw [hg] at zs sW sW5 ⊢
  clear hg
  have hS : ∀ w', KA w' w.heap.size g an P1 k1 ae L1 u1 L2 u2 → w'.cell? ⟨w.heap.size, 0, none⟩ = some (.bool an) ∧ w'.cell? ⟨g, 0, none⟩ = some (.slice L1 u1 u1) ∧ w'.cell? ⟨g, 1, none⟩ = some (.slice L2 u2 u2) := fun w' h => h.cells
  have HS := Lib.hid hS
  have ka : KA w5.drew w.heap.size g an P1 k1 ae L1 u1 L2 u2 := KA.on ⟨z0, zs⟩ ((Below.refl _ _).drew)
  have d5 : Below w5.heap.size w5 w5.drew := (Below.refl _ _).drew
  have HB := Lib.hid (Below.step BW d5)
  have T1 := Lib.hid (t1.on d5)
  have T2 := Lib.hid (t2.on d5)
  have Z2 := Lib.hid (z2.on d5)
  clear hS t1 t2 z0 z1 z2 zs BW d5
  go_region_held3 (fun w' => w'.cell? ⟨w.heap.size, 0, none⟩ = some (.bool an) ∧ w'.cell? ⟨g, 0, none⟩ = some (.slice L1 u1 u1) ∧ w'.cell? ⟨g, 1, none⟩ = some (.slice L2 u2 u2))
    ((refine HS.out _ ?_; first | (with_reducible assumption) | ((with_reducible refine KA.put ?_ ?_ ?_ _ _ _) <;> first | (with_reducible assumption) | omega)))
    (first
      | (go_at_call 81
         refine (add_any (T1.out.arg (by omega)) (T2.out.arg (by omega)) (by omega) (by omega)).mono ?_
         rintro e w6 ⟨V, v, rfl, rv, lv, b6⟩
         have ka := ka.on b6
         have HB := Lib.hid (Below.step HB.out b6)
         have Z2 := Lib.hid (Z2.out.on b6)
         have RV := Lib.hid rv
         clear rv b6)
      | (go_at_call 80
         refine (told_as (RV.out.arg (by omega)) (by omega) (hT.on HB.out) (by omega) (by omega) HR.out).mono ?_
         rintro e w7 ⟨V2, v2, rfl, rv2, b7⟩
         have ka := ka.on b7
         have HB := Lib.hid (Below.step HB.out b7)
         have Z2 := Lib.hid (Z2.out.on b7)
         have RV := Lib.hid rv2
         obtain ⟨p0, p1, p2, g0, g1, g2, _⟩ := Z2.out.cells
         clear rv2 b7))
  go_wp2_with fail
  refine bodyPost_ret (v := .tuple #[.agg #[.bool rn, .slice V2 v2 v2, .int .i64 re], .int .i64 err]) (by simp [results, Tryz.results44, go_sem, p0, p1, p2]) rfl ?_
  exact ⟨V2, v2, rfl, Z2.out.res RV.out _ _ _, below_put3 HB.out (by omega) _ _ _⟩
end Go.Proofs.YtpachoeignpcbaaGreatDoor

namespace Go.Proofs.YtpachoeignpcbaaGreatDoor
open Go.RowKit
set_option linter.unusedVariables false

set_option maxHeartbeats 4000000 in
theorem add_ge {A1 A2 : Option Addr} {n1 c1 n2 c2 x y : Nat} {na nb : Bool} {ea eb : Int} {w : World} (h1 : Arg w A1 n1 c1 x) (h2 : Arg w A2 n2 c2 y) (s1 : n1 ≤ 30000) (s2 : n2 ≤ 30000) (hT : Tab w)
    (ma : D.may ⟨na, x, ea⟩ = true) (mb : D.may ⟨nb, y, eb⟩ = true) {an bn : Bool} {ax bx : Nat} {ae be : Int} (hpa : D.pl ⟨na, x, ea⟩ = ⟨an, ax, ae⟩) (hpb : D.pl ⟨nb, y, eb⟩ = ⟨bn, bx, be⟩)
    {m : Int} {i j : Nat} (hm : min ae be = m) (hi : ae - m = (i : Int)) (hj : be - m = (j : Int)) (f1 : blen ax + i ≤ 16384) (f2 : blen bx + j ≤ 16384) (hn : (an == bn) = false) (hle : bx * 2 ^ j ≤ ax * 2 ^ i) :
    Calls Tryz.prog 44 #[.agg #[.bool na, .slice A1 n1 c1, .int .i64 ea], .agg #[.bool nb, .slice A2 n2 c2, .int .i64 eb]] w (DPost w (addS ⟨na, x, ea⟩ ⟨nb, y, eb⟩)) := by
  obtain ⟨a1, a2, a3, a4, a5⟩ := pl_bounds ma
  obtain ⟨b1, b2, b3, b4, b5⟩ := pl_bounds mb
  have HBP := Lib.hid (fun W (hW : Below w.heap.size w W) => both_plain (h1.on hW) (h2.on hW) s1 s2 (hT.on hW) ma mb)
  rw [hpa, hpb] at HBP
  rw [hpa] at a1 a2 a3 a4
  rw [hpb] at b1 b2 b3 b4
  simp only at a1 a2 a3 a4 b1 b2 b3 b4
  have HADD := Lib.hid (add_at_low ma mb (m := m) (i := i) (j := j) (by rw [hpa, hpb]; exact hm) (by rw [hpa]; exact hi) (by rw [hpb]; exact hj) (n := an) (u := ax * 2 ^ i - bx * 2 ^ j) (by rw [hpa, hpb]; exact sz_sub hn hle))
  have HTL := Lib.hid (addS_ok ma mb)
  rw [HTL.out, ← HADD.out]
  obtain ⟨⟨⟨rn, rx, re⟩, err⟩, hr⟩ : ∃ r, tld (D.pl ⟨an, ax * 2 ^ i - bx * 2 ^ j, m⟩) = r := ⟨_, rfl⟩
  rw [hr]
  have HR := Lib.hid hr
  have hc := cmpI_nn hle
  have HLE := Lib.hid hle
  clear hr HTL HADD ma mb hpa hpb hle
  go_enter Tryz.func44, Tryz.ntmps44
  go_wp2_with fail
  obtain ⟨W, hW, z0, z1, z2, BW, sW⟩ := frame3 w 48 48 48 na A1 n1 c1 ea nb A2 n2 c2 eb false none 0 0 0
  rw [hW]
  clear hW
  refine (HBP.out W BW).mono ?_
  rintro en w1 ⟨P1, k1, P2, k2, rfl, r1, r2, b⟩
  have z0 := z0.on b
  have z1 := z1.on b
  have z2 := z2.on b
  have BW := Below.step BW b
  have sW : w.heap.size + 3 ≤ w1.heap.size := by have := b.size; omega
  clear b HBP
  obtain ⟨p0, p1, p2, g0, g1, g2, _⟩ := z0.cells
  obtain ⟨q0, q1, q2, i0, i1, i2, _⟩ := z1.cells
  have hk1 := res_n_le r1 (k := 128) a1
  have hk2 := res_n_le r2 (k := 128) b1
  go_wp2_with fail
  clear p0 p1 p2 g0 g1 g2 q0 q1 q2 i0 i1 i2
  obtain ⟨w2, e1, e2⟩ := put3_named w1 w.heap.size (.bool an) (.slice P1 k1 k1) (.int .i64 ae)
  have r1 := z0.res r1 (.bool an) (.slice P1 k1 k1) (.int .i64 ae)
  have r2 := z0.res r2 (.bool an) (.slice P1 k1 k1) (.int .i64 ae)
  have z1 := z1.other (s := w.heap.size) (by omega) (.bool an) (.slice P1 k1 k1) (.int .i64 ae)
  have z2 := z2.other (s := w.heap.size) (by omega) (.bool an) (.slice P1 k1 k1) (.int .i64 ae)
  have z0 := z0.put_d an P1 k1 k1 ae
  have BW := below_put3 BW (Nat.le_refl _) (.bool an) (.slice P1 k1 k1) (.int .i64 ae)
  have sW : w.heap.size + 3 ≤ (put3 w1 w.heap.size (.bool an) (.slice P1 k1 k1) (.int .i64 ae)).heap.size := by rw [put3_size]; exact sW
  rw [e1]
  rw [e2] at r1 r2 z0 z1 z2 BW sW
  clear e1 e2
  obtain ⟨w3, e1, e2⟩ := put3_named w2 (w.heap.size + 1) (.bool bn) (.slice P2 k2 k2) (.int .i64 be)
  have r1 := z1.res r1 (.bool bn) (.slice P2 k2 k2) (.int .i64 be)
  have r2 := z1.res r2 (.bool bn) (.slice P2 k2 k2) (.int .i64 be)
  have z0 := z0.other (s := w.heap.size + 1) (by omega) (.bool bn) (.slice P2 k2 k2) (.int .i64 be)
  have z2 := z2.other (s := w.heap.size + 1) (by omega) (.bool bn) (.slice P2 k2 k2) (.int .i64 be)
  have z1 := z1.put_d bn P2 k2 k2 be
  have BW := below_put3 BW (by omega : w.heap.size ≤ w.heap.size + 1) (.bool bn) (.slice P2 k2 k2) (.int .i64 be)
  have sW : w.heap.size + 3 ≤ (put3 w2 (w.heap.size + 1) (.bool bn) (.slice P2 k2 k2) (.int .i64 be)).heap.size := by rw [put3_size]; exact sW
  rw [e1]
  rw [e2] at r1 r2 z0 z1 z2 BW sW
  clear e1 e2
  refine (aligned_ok (r1.arg (by omega)) (r2.arg (by omega)) (by omega) (by omega) (by omega) (by omega) (by omega) (by omega) m i j hm hi hj f1 f2).mono ?_
  rintro en w4 ⟨L1, u1, L2, u2, rfl, t1, t2, b⟩
  have z0 := z0.on b
  have z1 := z1.on b
  have z2 := z2.on b
  have BW := Below.step BW b
  have sW : w.heap.size + 3 ≤ w4.heap.size := by have := b.size; omega
  clear b r1 r2
  have hu1 := res_n_le t1 (k := 520) (fit_n _ _ (by assumption))
  have hu2 := res_n_le t2 (k := 520) (fit_n _ _ (by assumption))
  generalize ax * 2 ^ i = X at *
  generalize bx * 2 ^ j = Y at *
  obtain ⟨p0, p1, p2, g0, g1, g2, _⟩ := z0.cells
  obtain ⟨q0, q1, q2, i0, i1, i2, _⟩ := z1.cells
  go_wp2_with fail
  obtain ⟨w5, e5⟩ : ∃ w5, w4.alloc (.cells #[.slice L1 u1 u1, .slice L2 u2 u2] 107) = w5 := ⟨_, rfl⟩
  have b : Below w4.heap.size w4 w5 := e5 ▸ below_lit _ _
  have zs : Bx2 w5 w4.heap.size L1 u1 u1 L2 u2 u2 := e5 ▸ Bx2.made w4 L1 u1 u1 L2 u2 u2 rfl
  rw [e5]
  have t1 := t1.on b
  have t2 := t2.on b
  have z0 := z0.on b
  have z1 := z1.on b
  have z2 := z2.on b
  have BW := Below.step BW b
  have sW5 : w4.heap.size ≤ w5.heap.size := b.size
  clear b e5 p0 p1 p2 g0 g1 g2 q0 q1 q2 i0 i1 i2
  obtain ⟨g, hg⟩ : ∃ g, w4.heap.size = g := ⟨_, rfl⟩
  rw [hg] at zs sW sW5 ⊢
  clear hg
  have hS : ∀ w', KA w' w.heap.size g an P1 k1 ae L1 u1 L2 u2 → w'.cell? ⟨w.heap.size, 0, none⟩ = some (.bool an) ∧ w'.cell? ⟨g, 0, none⟩ = some (.slice L1 u1 u1) ∧ w'.cell? ⟨g, 1, none⟩ = some (.slice L2 u2 u2) := fun w' h => h.cells
  have HS := Lib.hid hS
  have ka : KA w5.drew w.heap.size g an P1 k1 ae L1 u1 L2 u2 := KA.on ⟨z0, zs⟩ ((Below.refl _ _).drew)
  clear hS
  go_region_held3 (fun w' => w'.cell? ⟨w.heap.size, 0, none⟩ = some (.bool an) ∧ w'.cell? ⟨g, 0, none⟩ = some (.slice L1 u1 u1) ∧ w'.cell? ⟨g, 1, none⟩ = some (.slice L2 u2 u2))
    ((refine HS.out _ ?_; with_reducible assumption)) (fail)
  clear HS ka
  go_wp2_with fail
  have d5 : Below w5.heap.size w5 w5.drew := (Below.refl _ _).drew
  have t1 := t1.on d5
  have t2 := t2.on d5
  have z1 := z1.on d5
  have z2 := z2.on d5
  have zs := zs.on d5
  have BW := Below.step BW d5
  clear d5 z0
  refine (cmp_as _ (t1.arg (by omega)) (t2.arg (by omega)) (by omega) (by omega) rfl).mono ?_
  rintro en w6 ⟨rfl, b⟩
  have t1 := t1.on b
  have t2 := t2.on b
  have z1 := z1.on b
  have z2 := z2.on b
  have zs := zs.on b
  have BW := Below.step BW b
  clear b
  go_wp2_with fail
  refine (aless_any (t1.arg (by omega)) (t2.arg (by omega)) (by omega) (by omega) HLE.out).mono ?_
  rintro en w7 ⟨V, v, rfl, rv, lv, b⟩
  have z2 := z2.on b
  have BW := Below.step BW b
  clear b t1 t2
  go_wp2_with fail
  refine (told_as (rv.arg (by omega)) (by omega) (hT.on BW) (by omega) (by omega) HR.out).mono ?_
  rintro en w8 ⟨V2, v2, rfl, rv2, b⟩
  have z2 := z2.on b
  have BW := Below.step BW b
  clear b
  obtain ⟨p0, p1, p2, g0, g1, g2, _⟩ := z2.cells
  go_wp2_with fail
  refine bodyPost_ret (v := .tuple #[.agg #[.bool rn, .slice V2 v2 v2, .int .i64 re], .int .i64 err]) (by simp [results, Tryz.results44, go_sem, p0, p1, p2]) rfl ?_
  exact ⟨V2, v2, rfl, z2.res rv2 _ _ _, below_put3 BW (by omega) _ _ _⟩
end Go.Proofs.YtpachoeignpcbaaGreatDoor
