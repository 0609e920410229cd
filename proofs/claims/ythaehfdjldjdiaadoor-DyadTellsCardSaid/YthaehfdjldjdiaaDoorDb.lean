
/-
  The walks of dyad's bothPlain, told, aligned.
-/
import Derived.Test.YthaehfdjldjdiaaDoorDfr
namespace Go.Proofs.YthaehfdjldjdiaaDoor
open Go.RowKit
set_option linter.unusedVariables false

def BPost (w : World) (a b : D) (e : Ending) (w' : World) : Prop :=
  ∃ A1 n1 A2 n2, e = .returned (.tuple #[.agg #[.bool a.neg, .slice A1 n1 n1, .int .i64 a.e], .agg #[.bool b.neg, .slice A2 n2 n2, .int .i64 b.e], .int .i64 0]) ∧ Res w' A1 n1 a.x ∧ Res w' A2 n2 b.x ∧ Below w.heap.size w w'
def BErr (w : World) (e : Ending) (w' : World) : Prop :=
  e = .returned (.tuple #[.agg #[.bool false, .slice none 0 0, .int .i64 0], .agg #[.bool false, .slice none 0 0, .int .i64 0], .int .i64 3]) ∧ Below w.heap.size w w'

theorem may_as {A : Option Addr} {n c x : Nat} {neg : Bool} {e : Int} {w : World} (b : Bool) (h : Arg w A n c x) (hs : n ≤ 2000000) (hb : D.may ⟨neg, x, e⟩ = b) :
    Calls Tryd.prog 50 #[.agg #[.bool neg, .slice A n c, .int .i64 e]] w fun en w' => en = .returned (.bool b) ∧ Below w.heap.size w w' := by
  subst hb; exact may_any h hs

set_option maxHeartbeats 4000000 in
theorem both_plain {A1 A2 : Option Addr} {n1 c1 n2 c2 x y : Nat} {na nb : Bool} {ea eb : Int} {w : World} (h1 : Arg w A1 n1 c1 x) (h2 : Arg w A2 n2 c2 y) (s1 : n1 ≤ 30000) (s2 : n2 ≤ 30000) (hT : Tab w)
    (ma : D.may ⟨na, x, ea⟩ = true) (mb : D.may ⟨nb, y, eb⟩ = true) :
    Calls Tryd.prog 31 #[.agg #[.bool na, .slice A1 n1 c1, .int .i64 ea], .agg #[.bool nb, .slice A2 n2 c2, .int .i64 eb]] w (BPost w (D.pl ⟨na, x, ea⟩) (D.pl ⟨nb, y, eb⟩)) := by
  have MA := Lib.hid ma
  have MB := Lib.hid mb
  have ha := (D.may_iff _).1 ma
  have hb := (D.may_iff _).1 mb
  simp only at ha hb
  obtain ⟨ha1, ha2, ha3⟩ := ha
  obtain ⟨hb1, hb2, hb3⟩ := hb
  clear ma mb
  go_enter Tryd.func31, Tryd.ntmps31
  go_wp2_with fail
  obtain ⟨W, hW, z0, z1, z2, z3, BW, sW⟩ := frame4 w 25 25 25 25 na A1 n1 c1 ea nb A2 n2 c2 eb false none 0 0 0 false none 0 0 0
  rw [hW]
  clear hW
  refine (may_as true (h1.on BW) (by omega) MA.out).mono ?_
  rintro e w1 ⟨rfl, b⟩
  have z0 := z0.on b
  have z1 := z1.on b
  have z2 := z2.on b
  have z3 := z3.on b
  have BW := Below.step BW b
  have sW : w.heap.size + 4 ≤ w1.heap.size := by have := b.size; omega
  clear b
  obtain ⟨c0, c1', c2', f0, f1, f2, _⟩ := z1.cells
  go_wp2_with fail
  refine (may_as true (h2.on BW) (by omega) MB.out).mono ?_
  rintro e w2 ⟨rfl, b⟩
  clear c0 c1' c2' f0 f1 f2
  have z0 := z0.on b
  have z1 := z1.on b
  have z2 := z2.on b
  have z3 := z3.on b
  have BW := Below.step BW b
  have sW : w.heap.size + 4 ≤ w2.heap.size := by have := b.size; omega
  clear b
  go_wp2_with fail
  have HS : Hid (∀ w', Below (w.heap.size + 1 + 1) w2 w' → w'.cell? ⟨w.heap.size, 0, none⟩ = some (.bool na) ∧ w'.cell? ⟨w.heap.size, 1, none⟩ = some (.slice A1 n1 c1) ∧ w'.cell? ⟨w.heap.size, 2, none⟩ = some (.int .i64 ea) ∧
      w'.cell? ⟨w.heap.size + 1, 0, none⟩ = some (.bool nb) ∧ w'.cell? ⟨w.heap.size + 1, 1, none⟩ = some (.slice A2 n2 c2) ∧ w'.cell? ⟨w.heap.size + 1, 2, none⟩ = some (.int .i64 eb)) := fun w' hb => by
    obtain ⟨p0, p1, p2, _⟩ := (z0.below hb (by omega)).cells
    obtain ⟨q0, q1, q2, _⟩ := (z1.below hb (by omega)).cells
    exact ⟨p0, p1, p2, q0, q1, q2⟩
  have HB := Lib.hid BW
  have Z2 := Lib.hid z2
  have Z3 := Lib.hid z3
  clear BW z0 z1 z2 z3
  have k2 : Below (w.heap.size + 1 + 1) w2 w2.drew := (Below.refl _ _).drew
  go_region_held3 (fun w' => w'.cell? ⟨w.heap.size, 0, none⟩ = some (.bool na) ∧ w'.cell? ⟨w.heap.size, 1, none⟩ = some (.slice A1 n1 c1) ∧ w'.cell? ⟨w.heap.size, 2, none⟩ = some (.int .i64 ea) ∧
      w'.cell? ⟨w.heap.size + 1, 0, none⟩ = some (.bool nb) ∧ w'.cell? ⟨w.heap.size + 1, 1, none⟩ = some (.slice A2 n2 c2) ∧ w'.cell? ⟨w.heap.size + 1, 2, none⟩ = some (.int .i64 eb))
    ((refine HS.out _ ?_; first | (with_reducible assumption) | ((with_reducible refine below_put3 ?_ ?_ _ _ _) <;> first | (with_reducible assumption) | omega | ((with_reducible refine below_put3 ?_ ?_ _ _ _) <;> first | (with_reducible assumption) | omega))))
    (first
      | (go_at_call_of 51 (Value.agg #[.bool na, .slice A1 n1 c1, .int .i64 ea])
         refine (plain_any (h1.on (HB.out.drew)) (by omega) (hT.on (HB.out.drew)) (by omega) (by omega)).mono ?_
         rintro e w3 ⟨B1, m1, rfl, r1, b3⟩
         have b3 := Below.step ((Below.refl _ w2).drew) b3
         have k3 : Below (w.heap.size + 1 + 1) w2 w3 := b3.mono (by omega)
         have R1 := Lib.hid r1
         have K3 := Lib.hid b3
         clear r1 b3)
      | (go_at_call_of 51 (Value.agg #[.bool nb, .slice A2 n2 c2, .int .i64 eb])
         have q3 : Below w.heap.size w w3 := HB.out.trans (k3.mono (by omega))
         have hz3 := K3.out.size
         refine (plain_any (h2.on q3) (by omega) (hT.on q3) (by omega) (by omega)).mono ?_
         rintro e w4 ⟨B2, m2, rfl, r2, b4⟩
         have k4 : Below (w.heap.size + 1 + 1) w2 w4 := k3.trans (b4.mono (by omega))
         have R1 := Lib.hid (R1.out.on b4)
         have R2 := Lib.hid r2
         have Z2 := Lib.hid ((Z2.out.on (K3.out)).on b4)
         have Z3 := Lib.hid ((Z3.out.on (K3.out)).on b4)
         obtain ⟨p0, p1, p2, g0, g1, g2, _⟩ := Z2.out.cells
         obtain ⟨q0, q1, q2, i0, i1, i2, _⟩ := Z3.out.cells
         clear r2 b4 q3))
  go_wp2_with fail
  refine bodyPost_ret (v := .tuple #[.agg #[.bool (D.pl ⟨na, x, ea⟩).neg, .slice B1 m1 m1, .int .i64 (D.pl ⟨na, x, ea⟩).e], .agg #[.bool (D.pl ⟨nb, y, eb⟩).neg, .slice B2 m2 m2, .int .i64 (D.pl ⟨nb, y, eb⟩).e], .int .i64 0]) (by simp [results, Tryd.results31, go_sem, p0, p1, p2, q0, q1, q2]) rfl ?_
  have z3 := Z3.out.other (s := w.heap.size + 1 + 1) (by omega) (.bool (D.pl ⟨na, x, ea⟩).neg) (.slice B1 m1 m1) (.int .i64 (D.pl ⟨na, x, ea⟩).e)
  exact ⟨B1, m1, B2, m2, rfl, z3.res (Z2.out.res R1.out _ _ _) _ _ _, z3.res (Z2.out.res R2.out _ _ _) _ _ _, below_put3 (below_put3 (HB.out.trans (k4.mono (by omega))) (by omega) _ _ _) (by omega) _ _ _⟩

theorem both_err {A1 A2 : Option Addr} {n1 c1 n2 c2 x y : Nat} {na nb : Bool} {ea eb : Int} {w : World} (h1 : Arg w A1 n1 c1 x) (h2 : Arg w A2 n2 c2 y) (s1 : n1 ≤ 30000) (s2 : n2 ≤ 30000)
    (hm : D.may ⟨na, x, ea⟩ = false ∨ D.may ⟨nb, y, eb⟩ = false) :
    Calls Tryd.prog 31 #[.agg #[.bool na, .slice A1 n1 c1, .int .i64 ea], .agg #[.bool nb, .slice A2 n2 c2, .int .i64 eb]] w (BErr w) := by
  obtain ⟨ma, hma⟩ : ∃ b, D.may ⟨na, x, ea⟩ = b := ⟨_, rfl⟩
  obtain ⟨mb, hmb⟩ : ∃ b, D.may ⟨nb, y, eb⟩ = b := ⟨_, rfl⟩
  rw [hma, hmb] at hm
  have MA := Lib.hid hma
  have MB := Lib.hid hmb
  clear hma hmb
  cases ma
  · clear hm
    go_enter Tryd.func31, Tryd.ntmps31
    go_wp2_with fail
    obtain ⟨W, hW, z0, z1, z2, z3, BW, sW⟩ := frame4 w 25 25 25 25 na A1 n1 c1 ea nb A2 n2 c2 eb false none 0 0 0 false none 0 0 0
    rw [hW]
    clear hW
    refine (may_as false (h1.on BW) (by omega) MA.out).mono ?_
    rintro e w1 ⟨rfl, b⟩
    obtain ⟨p0, p1, p2, g0, g1, g2, _⟩ := (z2.on b).cells
    obtain ⟨q0, q1, q2, i0, i1, i2, _⟩ := (z3.on b).cells
    have BW := Below.step BW b
    clear b
    go_wp2_with fail
    refine bodyPost_ret (v := .tuple #[.agg #[.bool false, .slice none 0 0, .int .i64 0], .agg #[.bool false, .slice none 0 0, .int .i64 0], .int .i64 3]) (by simp [results, Tryd.results31, go_sem, p0, p1, p2, q0, q1, q2]) rfl ?_
    exact ⟨rfl, below_put3 (below_put3 BW (by omega) _ _ _) (by omega) _ _ _⟩
  · cases mb
    · clear hm
      go_enter Tryd.func31, Tryd.ntmps31
      go_wp2_with fail
      obtain ⟨W, hW, z0, z1, z2, z3, BW, sW⟩ := frame4 w 25 25 25 25 na A1 n1 c1 ea nb A2 n2 c2 eb false none 0 0 0 false none 0 0 0
      rw [hW]
      clear hW
      refine (may_as true (h1.on BW) (by omega) MA.out).mono ?_
      rintro e w1 ⟨rfl, b⟩
      obtain ⟨c0, c1', c2', f0, f1, f2, _⟩ := (z1.on b).cells
      have z2 := z2.on b
      have z3 := z3.on b
      have BW := Below.step BW b
      clear b
      go_wp2_with fail
      refine (may_as false (h2.on BW) (by omega) MB.out).mono ?_
      rintro e w2 ⟨rfl, b⟩
      clear c0 c1' c2' f0 f1 f2
      obtain ⟨p0, p1, p2, g0, g1, g2, _⟩ := (z2.on b).cells
      obtain ⟨q0, q1, q2, i0, i1, i2, _⟩ := (z3.on b).cells
      have BW := Below.step BW b
      clear b
      go_wp2_with fail
      refine bodyPost_ret (v := .tuple #[.agg #[.bool false, .slice none 0 0, .int .i64 0], .agg #[.bool false, .slice none 0 0, .int .i64 0], .int .i64 3]) (by simp [results, Tryd.results31, go_sem, p0, p1, p2, q0, q1, q2]) rfl ?_
      exact ⟨rfl, below_put3 (below_put3 BW (by omega) _ _ _) (by omega) _ _ _⟩
    · rcases hm with hm | hm <;> cases hm

/-- a function that answers a number and an error. -/
def DPost (w : World) (r : D × Int) (e : Ending) (w' : World) : Prop := ∃ A n, e = .returned (.tuple #[.agg #[.bool r.1.neg, .slice A n n, .int .i64 r.1.e], .int .i64 r.2]) ∧ Res w' A n r.1.x ∧ Below w.heap.size w w'
/-- what is told of a plain number. -/
def tld (d : D) : D × Int := if d.may then (d, 0) else (⟨false, 0, 0⟩, 6)

theorem res_n_le {w : World} {A : Option Addr} {n x k : Nat} (h : Res w A n x) (hk : blen x ≤ 32 * k) : n ≤ k := h.size (by rw [pw_two]; exact (blen_le _ _).1 hk)
theorem pl_blen (d : D) : blen d.pl.x ≤ blen d.x := by
  by_cases h : d.x = 0
  · rw [D.pl_zero h]; exact Nat.zero_le _
  · rw [D.pl_pos h]; exact blen_le_of (Nat.div_le_self _ _)

set_option maxHeartbeats 1000000 in
theorem told_any {A : Option Addr} {n c x : Nat} {neg : Bool} {e : Int} {w : World} (h : Arg w A n c x) (hs : n ≤ 30000) (hT : Tab w) (he : -1000000 ≤ e) (he2 : e ≤ 1000000) :
    Calls Tryd.prog 33 #[.agg #[.bool neg, .slice A n c, .int .i64 e]] w (DPost w (tld (D.pl ⟨neg, x, e⟩))) := by
  have hbl : blen (D.pl ⟨neg, x, e⟩).x ≤ 32 * n := Nat.le_trans (pl_blen _) h.blen
  go_enter Tryd.func33, Tryd.ntmps33
  go_wp2_with fail
  obtain ⟨W, hW, z0, z1, BW, sW⟩ := frame2 w 25 25 neg A n c e false none 0 0 0
  rw [hW]
  clear hW
  refine (plain_any (h.on BW) hs (hT.on BW) he he2).mono ?_
  rintro en w1 ⟨A1, n1, rfl, r1, b⟩
  generalize D.pl ⟨neg, x, e⟩ = d at *
  obtain ⟨dn, dx, de⟩ := d
  simp only at hbl r1
  have hn1 := res_n_le r1 hbl
  have z0 := z0.on b
  have z1 := z1.on b
  have BW := Below.step BW b
  clear b
  obtain ⟨p0, p1, p2, g0, g1, g2, _⟩ := z0.cells
  go_wp2_with fail
  obtain ⟨w2, hw1, hw2⟩ := put3_named w1 w.heap.size (.bool dn) (.slice A1 n1 n1) (.int .i64 de)
  have r1 := z0.res r1 (.bool dn) (.slice A1 n1 n1) (.int .i64 de)
  have z1 := z1.other (s := w.heap.size) (by omega) (.bool dn) (.slice A1 n1 n1) (.int .i64 de)
  have z0 := z0.put_d dn A1 n1 n1 de
  have BW := below_put3 BW (Nat.le_refl _) (.bool dn) (.slice A1 n1 n1) (.int .i64 de)
  clear p0 p1 p2 g0 g1 g2
  rw [hw1]
  rw [hw2] at r1 z0 z1 BW
  clear hw1 hw2
  obtain ⟨m, hm⟩ : ∃ b, D.may ⟨dn, dx, de⟩ = b := ⟨_, rfl⟩
  refine (may_as m (r1.arg (by omega)) (by omega) hm).mono ?_
  rintro en w3 ⟨rfl, b⟩
  have z0 := z0.on b
  have z1 := z1.on b
  have r1 := r1.on b
  have BW := Below.step BW b
  obtain ⟨p0, p1, p2, g0, g1, g2, _⟩ := z0.cells
  obtain ⟨q0, q1, q2, i0, i1, i2, _⟩ := z1.cells
  have HM := Lib.hid hm
  clear b hm
  cases m
  · go_wp2_with fail
    refine bodyPost_ret (v := .tuple #[.agg #[.bool false, .slice none 0 0, .int .i64 0], .int .i64 6]) (by simp [results, Tryd.results33, go_sem, q0, q1, q2]) rfl ?_
    have e1 : tld ⟨dn, dx, de⟩ = (⟨false, 0, 0⟩, 6) := by unfold tld; rw [HM.out]; rfl
    rw [e1]
    exact ⟨none, 0, rfl, Res.none_ _, below_put3 BW (by omega) _ _ _⟩
  · go_wp2_with fail
    refine bodyPost_ret (v := .tuple #[.agg #[.bool dn, .slice A1 n1 n1, .int .i64 de], .int .i64 0]) (by simp [results, Tryd.results33, go_sem, q0, q1, q2]) rfl ?_
    have e1 : tld ⟨dn, dx, de⟩ = (⟨dn, dx, de⟩, 0) := by unfold tld; rw [HM.out]; rfl
    rw [e1]
    exact ⟨A1, n1, rfl, z1.res r1 _ _ _, below_put3 BW (by omega) _ _ _⟩
end Go.Proofs.YthaehfdjldjdiaaDoor
