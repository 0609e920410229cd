
/-
  The walk of the statements' awake: calls whose answers the document fixes.
-/
import Derived.Test.YtpachoeignpcbaaGreatDoorDE
namespace Go.Proofs.YtpachoeignpcbaaGreatDoor
open Go.RowKit
set_option linter.unusedVariables false

theorem ev_p : plainS ⟨false, 12, 3⟩ = (⟨false, 3, 5⟩, 0) := by
  unfold plainS
  rw [may_small (by decide) (by decide) (by decide), if_pos rfl, pl_eval false 2 3 (e := 3) (e' := 5) rfl rfl rfl]
theorem ev_of (n : Int) (k q : Nat) {m : Bool} {e : Int} (hx : n.natAbs = 2 ^ k * q) (hq : q % 2 = 1) (hm : decide (n < 0) = m) (he : e = 0 + (k : Int)) : ofD n = ⟨m, q, e⟩ := by
  unfold ofD
  rw [hm]
  exact pl_eval m k q hx hq he
theorem ev_of1 : ofD 1 = ⟨false, 1, 0⟩ := ev_of 1 0 1 rfl rfl rfl rfl
theorem ev_of3 : ofD (-3) = ⟨true, 3, 0⟩ := ev_of (-3) 0 3 rfl rfl rfl rfl
theorem ev_of6 : ofD 6 = ⟨false, 3, 1⟩ := ev_of 6 1 3 rfl rfl rfl rfl
theorem ev_of2 : ofD 2 = ⟨false, 1, 1⟩ := ev_of 2 1 1 rfl rfl rfl rfl
theorem ev_of5 : ofD 5 = ⟨false, 5, 0⟩ := ev_of 5 0 5 rfl rfl rfl rfl
theorem ev_of7 : ofD (-7) = ⟨true, 7, 0⟩ := ev_of (-7) 0 7 rfl rfl rfl rfl
theorem ev_of4 : ofD 4 = ⟨false, 1, 2⟩ := ev_of 4 2 1 rfl rfl rfl rfl
/-- a sum of small plain numbers, reckoned. -/
theorem ev_add {an bn n : Bool} {ax bx u : Nat} {ae be m : Int} (i j : Nat) (ha : ax % 2 = 1) (hb : bx % 2 = 1) (ma : D.may ⟨an, ax, ae⟩ = true) (mb : D.may ⟨bn, bx, be⟩ = true) (hm : min ae be = m) (hi : ae - m = (i : Int)) (hj : be - m = (j : Int))
    (hu : (⟨n, u, m⟩ : D).sz = (⟨an, ax * 2 ^ i, m⟩ : D).sz + (⟨bn, bx * 2 ^ j, m⟩ : D).sz) : D.add ⟨an, ax, ae⟩ ⟨bn, bx, be⟩ = (⟨n, u, m⟩ : D).pl := by
  have pa : D.pl ⟨an, ax, ae⟩ = ⟨an, ax, ae⟩ := pl_eval an 0 ax (by simp) ha (by simp)
  have pb : D.pl ⟨bn, bx, be⟩ = ⟨bn, bx, be⟩ := pl_eval bn 0 bx (by simp) hb (by simp)
  have := add_at_low ma mb (m := m) (i := i) (j := j) (n := n) (u := u) (by rw [pa, pb]; exact hm) (by rw [pa]; exact hi) (by rw [pb]; exact hj) (by rw [pa, pb]; exact hu)
  exact this.symm
theorem ev_s : addS ⟨false, 1, 0⟩ ⟨true, 1, -1⟩ = (⟨false, 1, -1⟩, 0) := by
  have m1 : D.may ⟨false, 1, 0⟩ = true := may_small (by decide) (by decide) (by decide)
  have m2 : D.may ⟨true, 1, -1⟩ = true := may_small (by decide) (by decide) (by decide)
  have m3 : D.may ⟨false, 1, -1⟩ = true := may_small (by decide) (by decide) (by decide)
  rw [addS_ok m1 m2, ev_add (n := false) (u := 1) (m := -1) 1 0 rfl rfl m1 m2 rfl rfl rfl rfl, pl_eval false 0 1 (e := -1) (e' := -1) rfl rfl rfl, tld_ok m3]
theorem ev_m : mulS ⟨true, 3, 0⟩ ⟨false, 3, 1⟩ = (⟨true, 9, 1⟩, 0) := by
  have m1 : D.may ⟨true, 3, 0⟩ = true := may_small (by decide) (by decide) (by decide)
  have m2 : D.may ⟨false, 3, 1⟩ = true := may_small (by decide) (by decide) (by decide)
  have m3 : D.may ⟨true, 9, 1⟩ = true := may_small (by decide) (by decide) (by decide)
  have e : D.mul ⟨true, 3, 0⟩ ⟨false, 3, 1⟩ = ⟨true, 9, 1⟩ := pl_eval true 0 9 rfl rfl rfl
  rw [mulS_ok m1 m2, e, tld_ok m3]
theorem ev_c : cmpS ⟨true, 3, 0⟩ ⟨false, 1, 1⟩ = (-1, 0) := by
  have m1 : D.may ⟨true, 3, 0⟩ = true := may_small (by decide) (by decide) (by decide)
  have m2 : D.may ⟨false, 1, 1⟩ = true := may_small (by decide) (by decide) (by decide)
  rw [cmpS_ok m1 m2]
  have h1 : D.vl ⟨true, 3, 0⟩ < 0 := D.vl_neg.2 ⟨rfl, by decide⟩
  have h2 : ¬ D.vl ⟨false, 1, 1⟩ < 0 := fun h => by have := (D.vl_neg.1 h).1; cases this
  generalize D.vl ⟨true, 3, 0⟩ = u at *
  generalize D.vl ⟨false, 1, 1⟩ = v at *
  unfold cmpI
  rw [if_pos (by omega)]
theorem ev_t : topS ⟨false, 5, 0⟩ = (2, 0) := by
  have m1 : D.may ⟨false, 5, 0⟩ = true := may_small (by decide) (by decide) (by decide)
  unfold topS
  rw [m1, if_pos rfl, if_neg (by decide)]
  rfl
theorem ev_j : topS ⟨false, 0, 0⟩ = (0, 1) := by
  have m1 : D.may ⟨false, 0, 0⟩ = true := may_small (by decide) (by decide) (by decide)
  unfold topS
  rw [m1, if_pos rfl, if_pos rfl]
theorem ev_l : floorS ⟨true, 7, 0⟩ 1 = (⟨true, 3, 1⟩, true, 0) := by
  have m1 : D.may ⟨true, 7, 0⟩ = true := may_small (by decide) (by decide) (by decide)
  unfold floorS
  rw [m1, if_pos rfl, if_pos (by decide), if_neg (by decide)]
  show (D.pl ⟨true, 7 / 2 ^ 1, 1⟩, decide (7 % 2 ^ 1 ≠ 0), (0 : Int)) = _
  rw [pl_eval true 0 3 (e := 1) (e' := 1) rfl rfl rfl]
  rfl
theorem ev_n : plainS ⟨false, 0, 8193⟩ = (⟨false, 0, 0⟩, 3) := rfl
theorem ev_d : addS ⟨false, 1, 1⟩ (D.turn ⟨false, 1, 1⟩) = (⟨false, 0, 0⟩, 0) := by
  have m1 : D.may ⟨false, 1, 1⟩ = true := may_small (by decide) (by decide) (by decide)
  have m2 : D.may ⟨true, 1, 1⟩ = true := may_small (by decide) (by decide) (by decide)
  have m3 : D.may ⟨false, 0, 0⟩ = true := may_small (by decide) (by decide) (by decide)
  have e : D.turn ⟨false, 1, 1⟩ = ⟨true, 1, 1⟩ := rfl
  rw [e, addS_ok m1 m2, ev_add (n := false) (u := 0) (m := 1) 0 0 rfl rfl m1 m2 rfl rfl rfl rfl, D.pl_zero rfl, tld_ok m3]

end Go.Proofs.YtpachoeignpcbaaGreatDoor
