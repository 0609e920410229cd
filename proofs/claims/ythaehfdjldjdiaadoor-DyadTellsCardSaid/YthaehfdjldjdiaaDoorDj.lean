
/-
  The walk of the statements' awake: calls whose answers the document fixes.
-/
import Derived.Test.YthaehfdjldjdiaaDoorDi
namespace Go.Proofs.YthaehfdjldjdiaaDoor
open Go.RowKit
set_option linter.unusedVariables false

theorem ev_p : plainS ⟨false, 12, 3⟩ = (⟨false, 3, 5⟩, 0) := by
  unfold plainS
  rw [may_small (by decide) (by decide) (by decide), if_pos rfl, pl_eval false 2 3 (e := 3) (e' := 5) rfl rfl rfl]
theorem ev_of (n : Int) (k q : Nat) {m : Bool} {e : Int} (hx : n.natAbs = 2 ^ k * q) (hq : q % 2 = 1) (hm : decide (n < 0) = m) (he : e = 0 + (k : Int)) : ofD n = ⟨m, q, e⟩ := by
  unfold ofD
  rw [hm]
  exact pl_eval m k q hx hq he
theorem ev_of1 : ofD 1 = ⟨false, 1, 0⟩ := ev_of 1 0 1 rfl rfl rfl rfl
theorem ev_of3 : ofD (-3) = ⟨true, 3, 0⟩ := ev_of (-3) 0 3 rfl rfl rfl rfl
theorem ev_of6 : ofD 6 = ⟨false, 3, 1⟩ := ev_of 6 1 3 rfl rfl rfl rfl
theorem ev_of2 : ofD 2 = ⟨false, 1, 1⟩ := ev_of 2 1 1 rfl rfl rfl rfl
theorem ev_of5 : ofD 5 = ⟨false, 5, 0⟩ := ev_of 5 0 5 rfl rfl rfl rfl
theorem ev_of7 : ofD (-7) = ⟨true, 7, 0⟩ := ev_of (-7) 0 7 rfl rfl rfl rfl
theorem ev_of4 : ofD 4 = ⟨false, 1, 2⟩ := ev_of 4 2 1 rfl rfl rfl rfl
/-- a sum of small plain numbers, reckoned. -/
theorem ev_add {an bn n : Bool} {ax bx u : Nat} {ae be m : Int} (i j : Nat) (ha : ax % 2 = 1) (hb : bx % 2 = 1) (ma : D.may ⟨an, ax, ae⟩ = true) (mb : D.may ⟨bn, bx, be⟩ = true) (hm : min ae be = m) (hi : ae - m = (i : Int)) (hj : be - m = (j : Int))
    (hu : (⟨n, u, m⟩ : D).sz = (⟨an, ax * 2 ^ i, m⟩ : D).sz + (⟨bn, bx * 2 ^ j, m⟩ : D).sz) : D.add ⟨an, ax, ae⟩ ⟨bn, bx, be⟩ = (⟨n, u, m⟩ : D).pl := by
  have pa : D.pl ⟨an, ax, ae⟩ = ⟨an, ax, ae⟩ := pl_eval an 0 ax (by simp) ha (by simp)
  have pb : D.pl ⟨bn, bx, be⟩ = ⟨bn, bx, be⟩ := pl_eval bn 0 bx (by simp) hb (by simp)
  have := add_at_low ma mb (m := m) (i := i) (j := j) (n := n) (u := u) (by rw [pa, pb]; exact hm) (by rw [pa]; exact hi) (by rw [pb]; exact hj) (by rw [pa, pb]; exact hu)
  exact this.symm
theorem ev_s : addS ⟨false, 1, 0⟩ ⟨true, 1, -1⟩ = (⟨false, 1, -1⟩, 0) := by
  have m1 : D.may ⟨false, 1, 0⟩ = true := may_small (by decide) (by decide) (by decide)
  have m2 : D.may ⟨true, 1, -1⟩ = true := may_small (by decide) (by decide) (by decide)
  have m3 : D.may ⟨false, 1, -1⟩ = true := may_small (by decide) (by decide) (by decide)
  rw [addS_ok m1 m2, ev_add (n := false) (u := 1) (m := -1) 1 0 rfl rfl m1 m2 rfl rfl rfl rfl, pl_eval false 0 1 (e := -1) (e' := -1) rfl rfl rfl, tld_ok m3]
theorem ev_m : mulS ⟨true, 3, 0⟩ ⟨false, 3, 1⟩ = (⟨true, 9, 1⟩, 0) := by
  have m1 : D.may ⟨true, 3, 0⟩ = true := may_small (by decide) (by decide) (by decide)
  have m2 : D.may ⟨false, 3, 1⟩ = true := may_small (by decide) (by decide) (by decide)
  have m3 : D.may ⟨true, 9, 1⟩ = true := may_small (by decide) (by decide) (by decide)
  have e : D.mul ⟨true, 3, 0⟩ ⟨false, 3, 1⟩ = ⟨true, 9, 1⟩ := pl_eval true 0 9 rfl rfl rfl
  rw [mulS_ok m1 m2, e, tld_ok m3]
theorem ev_c : cmpS ⟨true, 3, 0⟩ ⟨false, 1, 1⟩ = (-1, 0) := by
  have m1 : D.may ⟨true, 3, 0⟩ = true := may_small (by decide) (by decide) (by decide)
  have m2 : D.may ⟨false, 1, 1⟩ = true := may_small (by decide) (by decide) (by decide)
  rw [cmpS_ok m1 m2]
  have h1 : D.vl ⟨true, 3, 0⟩ < 0 := D.vl_neg.2 ⟨rfl, by decide⟩
  have h2 : ¬ D.vl ⟨false, 1, 1⟩ < 0 := fun h => by have := (D.vl_neg.1 h).1; cases this
  generalize D.vl ⟨true, 3, 0⟩ = u at *
  generalize D.vl ⟨false, 1, 1⟩ = v at *
  unfold cmpI
  rw [if_pos (by omega)]
theorem ev_t : topS ⟨false, 5, 0⟩ = (2, 0) := by
  have m1 : D.may ⟨false, 5, 0⟩ = true := may_small (by decide) (by decide) (by decide)
  unfold topS
  rw [m1, if_pos rfl, if_neg (by decide)]
  rfl
theorem ev_j : topS ⟨false, 0, 0⟩ = (0, 1) := by
  have m1 : D.may ⟨false, 0, 0⟩ = true := may_small (by decide) (by decide) (by decide)
  unfold topS
  rw [m1, if_pos rfl, if_pos rfl]
theorem ev_l : floorS ⟨true, 7, 0⟩ 1 = (⟨true, 3, 1⟩, true, 0) := by
  have m1 : D.may ⟨true, 7, 0⟩ = true := may_small (by decide) (by decide) (by decide)
  unfold floorS
  rw [m1, if_pos rfl, if_pos (by decide), if_neg (by decide)]
  show (D.pl ⟨true, 7 / 2 ^ 1, 1⟩, decide (7 % 2 ^ 1 ≠ 0), (0 : Int)) = _
  rw [pl_eval true 0 3 (e := 1) (e' := 1) rfl rfl rfl]
  rfl
theorem ev_n : plainS ⟨false, 0, 8193⟩ = (⟨false, 0, 0⟩, 3) := rfl
theorem ev_d : addS ⟨false, 1, 1⟩ (D.turn ⟨false, 1, 1⟩) = (⟨false, 0, 0⟩, 0) := by
  have m1 : D.may ⟨false, 1, 1⟩ = true := may_small (by decide) (by decide) (by decide)
  have m2 : D.may ⟨true, 1, 1⟩ = true := may_small (by decide) (by decide) (by decide)
  have m3 : D.may ⟨false, 0, 0⟩ = true := may_small (by decide) (by decide) (by decide)
  have e : D.turn ⟨false, 1, 1⟩ = ⟨true, 1, 1⟩ := rfl
  rw [e, addS_ok m1 m2, ev_add (n := false) (u := 0) (m := 1) 0 0 rfl rfl m1 m2 rfl rfl rfl rfl, D.pl_zero rfl, tld_ok m3]

set_option maxHeartbeats 4000000 in
set_option maxRecDepth 100000 in
theorem awake2_any {w : World} (hT : Tab w) :
    Calls Tryd.prog 8 #[] w fun e w' => e = .returned (.bool true) ∧ Below w.heap.size w w' := by
  go_enter Tryd.func8, Tryd.ntmps8
  go_wp2_with fail
  obtain ⟨w1, e_w1⟩ : ∃ w', w.alloc (.cells #[.int .u32 12] 61) = w' := ⟨_, rfl⟩
  have b : Below w.heap.size w w1 := e_w1 ▸ below_lit _ _
  have hs_w1 : w1.heap.size = w.heap.size + 1 := e_w1 ▸ size_lit w _ rfl
  have a0 : Arg w1 (some ⟨w.heap.size, 0, none⟩) 1 1 12 := e_w1 ▸ lit_arg_at w rfl 61 [12] 1 12 (canon1 12 (by omega) (by omega)).1 rfl (by omega) rfl
  rw [e_w1]
  clear e_w1
  replace hT := hT.on b
  have BW := b
  clear b
  refine (dplain_as a0 (by omega) hT ev_p).mono ?_
  rintro en w2 ⟨V_rp, v_rp, rfl, rp, b⟩
  replace hT := hT.on b
  replace a0 := a0.on b
  replace BW := Below.step BW b
  clear b
  clear a0
  go_wp2_with fail
  obtain ⟨w3, e_w3⟩ : ∃ w', w2.alloc (dob false V_rp v_rp v_rp 5 25) = w' := ⟨_, rfl⟩
  have b : Below w2.heap.size w2 w3 := e_w3 ▸ below_lit _ _
  have hs_w3 : w3.heap.size = w2.heap.size + 1 := e_w3 ▸ size_lit w2 _ rfl
  have zp : DB w3 w2.heap.size 25 false V_rp v_rp v_rp 5 := e_w3 ▸ DB.made w2 rfl 25 false V_rp v_rp v_rp 5
  rw [e_w3]
  clear e_w3
  replace hT := hT.on b
  replace rp := rp.on b
  replace BW := Below.step BW b
  clear b
  refine (dof_as 1 (by omega) (by omega) hT ev_of1).mono ?_
  rintro en w4 ⟨V_r1, v_r1, rfl, r1, b⟩
  replace hT := hT.on b
  replace rp := rp.on b
  replace zp := zp.on b
  replace BW := Below.step BW b
  clear b
  go_wp2_with fail
  obtain ⟨w5, e_w5⟩ : ∃ w', w4.alloc (.cells #[.int .u32 1] 61) = w' := ⟨_, rfl⟩
  have b : Below w4.heap.size w4 w5 := e_w5 ▸ below_lit _ _
  have hs_w5 : w5.heap.size = w4.heap.size + 1 := e_w5 ▸ size_lit w4 _ rfl
  have a1 : Arg w5 (some ⟨w4.heap.size, 0, none⟩) 1 1 1 := e_w5 ▸ lit_arg_at w4 rfl 61 [1] 1 1 (canon1 1 (by omega) (by omega)).1 rfl (by omega) rfl
  rw [e_w5]
  clear e_w5
  replace hT := hT.on b
  replace rp := rp.on b
  replace zp := zp.on b
  replace r1 := r1.on b
  replace BW := Below.step BW b
  clear b
  have l1 := res_n_le r1 (k := 128) (by decide)
  refine (dadd_as (r1.arg (by omega)) a1 (by omega) (by omega) hT ev_s).mono ?_
  rintro en w6 ⟨V_rs, v_rs, rfl, rs, b⟩
  replace hT := hT.on b
  replace rp := rp.on b
  replace zp := zp.on b
  replace r1 := r1.on b
  replace a1 := a1.on b
  replace BW := Below.step BW b
  clear b
  clear r1 a1
  go_wp2_with fail
  obtain ⟨w7, e_w7⟩ : ∃ w', w6.alloc (dob false V_rs v_rs v_rs (-1) 25) = w' := ⟨_, rfl⟩
  have b : Below w6.heap.size w6 w7 := e_w7 ▸ below_lit _ _
  have hs_w7 : w7.heap.size = w6.heap.size + 1 := e_w7 ▸ size_lit w6 _ rfl
  have zs : DB w7 w6.heap.size 25 false V_rs v_rs v_rs (-1) := e_w7 ▸ DB.made w6 rfl 25 false V_rs v_rs v_rs (-1)
  rw [e_w7]
  clear e_w7
  replace hT := hT.on b
  replace rp := rp.on b
  replace zp := zp.on b
  replace rs := rs.on b
  replace BW := Below.step BW b
  clear b
  refine (dof_as (-3) (by omega) (by omega) hT ev_of3).mono ?_
  rintro en w8 ⟨V_r1, v_r1, rfl, r1, b⟩
  replace hT := hT.on b
  replace rp := rp.on b
  replace zp := zp.on b
  replace rs := rs.on b
  replace zs := zs.on b
  replace BW := Below.step BW b
  clear b
  go_wp2_with fail
  refine (dof_as 6 (by omega) (by omega) hT ev_of6).mono ?_
  rintro en w9 ⟨V_r2, v_r2, rfl, r2, b⟩
  replace hT := hT.on b
  replace rp := rp.on b
  replace zp := zp.on b
  replace rs := rs.on b
  replace zs := zs.on b
  replace r1 := r1.on b
  replace BW := Below.step BW b
  clear b
  have l1 := res_n_le r1 (k := 128) (by decide)
  have l2 := res_n_le r2 (k := 128) (by decide)
  go_wp2_with fail
  refine (dmul_as (r1.arg (by omega)) (r2.arg (by omega)) (by omega) (by omega) hT ev_m).mono ?_
  rintro en w10 ⟨V_rm, v_rm, rfl, rm, b⟩
  replace hT := hT.on b
  replace rp := rp.on b
  replace zp := zp.on b
  replace rs := rs.on b
  replace zs := zs.on b
  replace r1 := r1.on b
  replace r2 := r2.on b
  replace BW := Below.step BW b
  clear b
  clear r1 r2
  go_wp2_with fail
  obtain ⟨w11, e_w11⟩ : ∃ w', w10.alloc (dob true V_rm v_rm v_rm 1 25) = w' := ⟨_, rfl⟩
  have b : Below w10.heap.size w10 w11 := e_w11 ▸ below_lit _ _
  have hs_w11 : w11.heap.size = w10.heap.size + 1 := e_w11 ▸ size_lit w10 _ rfl
  have zm : DB w11 w10.heap.size 25 true V_rm v_rm v_rm 1 := e_w11 ▸ DB.made w10 rfl 25 true V_rm v_rm v_rm 1
  rw [e_w11]
  clear e_w11
  replace hT := hT.on b
  replace rp := rp.on b
  replace zp := zp.on b
  replace rs := rs.on b
  replace zs := zs.on b
  replace rm := rm.on b
  replace BW := Below.step BW b
  clear b
  refine (dof_as (-3) (by omega) (by omega) hT ev_of3).mono ?_
  rintro en w12 ⟨V_r1, v_r1, rfl, r1, b⟩
  replace hT := hT.on b
  replace rp := rp.on b
  replace zp := zp.on b
  replace rs := rs.on b
  replace zs := zs.on b
  replace rm := rm.on b
  replace zm := zm.on b
  replace BW := Below.step BW b
  clear b
  go_wp2_with fail
  refine (dof_as 2 (by omega) (by omega) hT ev_of2).mono ?_
  rintro en w13 ⟨V_r2, v_r2, rfl, r2, b⟩
  replace hT := hT.on b
  replace rp := rp.on b
  replace zp := zp.on b
  replace rs := rs.on b
  replace zs := zs.on b
  replace rm := rm.on b
  replace zm := zm.on b
  replace r1 := r1.on b
  replace BW := Below.step BW b
  clear b
  have l1 := res_n_le r1 (k := 128) (by decide)
  have l2 := res_n_le r2 (k := 128) (by decide)
  go_wp2_with fail
  refine (dcmp_as (r1.arg (by omega)) (r2.arg (by omega)) (by omega) (by omega) hT ev_c).mono ?_
  rintro en w14 ⟨rfl, b⟩
  replace hT := hT.on b
  replace rp := rp.on b
  replace zp := zp.on b
  replace rs := rs.on b
  replace zs := zs.on b
  replace rm := rm.on b
  replace zm := zm.on b
  replace r1 := r1.on b
  replace r2 := r2.on b
  replace BW := Below.step BW b
  clear b
  clear r1 r2
  go_wp2_with fail
  refine (dof_as 5 (by omega) (by omega) hT ev_of5).mono ?_
  rintro en w15 ⟨V_r1, v_r1, rfl, r1, b⟩
  replace hT := hT.on b
  replace rp := rp.on b
  replace zp := zp.on b
  replace rs := rs.on b
  replace zs := zs.on b
  replace rm := rm.on b
  replace zm := zm.on b
  replace BW := Below.step BW b
  clear b
  have l1 := res_n_le r1 (k := 128) (by decide)
  go_wp2_with fail
  refine (dtop_as (r1.arg (by omega)) (by omega) hT ev_t).mono ?_
  rintro en w16 ⟨rfl, b⟩
  replace hT := hT.on b
  replace rp := rp.on b
  replace zp := zp.on b
  replace rs := rs.on b
  replace zs := zs.on b
  replace rm := rm.on b
  replace zm := zm.on b
  replace r1 := r1.on b
  replace BW := Below.step BW b
  clear b
  clear r1
  go_wp2_with fail
  refine (dtop_as ((Res.none_ _).arg (by omega)) (by omega) hT ev_j).mono ?_
  rintro en w17 ⟨rfl, b⟩
  replace hT := hT.on b
  replace rp := rp.on b
  replace zp := zp.on b
  replace rs := rs.on b
  replace zs := zs.on b
  replace rm := rm.on b
  replace zm := zm.on b
  replace BW := Below.step BW b
  clear b
  go_wp2_with fail
  refine (dof_as (-7) (by omega) (by omega) hT ev_of7).mono ?_
  rintro en w18 ⟨V_r1, v_r1, rfl, r1, b⟩
  replace hT := hT.on b
  replace rp := rp.on b
  replace zp := zp.on b
  replace rs := rs.on b
  replace zs := zs.on b
  replace rm := rm.on b
  replace zm := zm.on b
  replace BW := Below.step BW b
  clear b
  have l1 := res_n_le r1 (k := 128) (by decide)
  go_wp2_with fail
  refine (dfloor_as (r1.arg (by omega)) (by omega) hT ev_l).mono ?_
  rintro en w19 ⟨V_rl, v_rl, rfl, rl, b⟩
  replace hT := hT.on b
  replace rp := rp.on b
  replace zp := zp.on b
  replace rs := rs.on b
  replace zs := zs.on b
  replace rm := rm.on b
  replace zm := zm.on b
  replace r1 := r1.on b
  replace BW := Below.step BW b
  clear b
  clear r1
  go_wp2_with fail
  obtain ⟨w20, e_w20⟩ : ∃ w', w19.alloc (dob true V_rl v_rl v_rl 1 25) = w' := ⟨_, rfl⟩
  have b : Below w19.heap.size w19 w20 := e_w20 ▸ below_lit _ _
  have hs_w20 : w20.heap.size = w19.heap.size + 1 := e_w20 ▸ size_lit w19 _ rfl
  have zl : DB w20 w19.heap.size 25 true V_rl v_rl v_rl 1 := e_w20 ▸ DB.made w19 rfl 25 true V_rl v_rl v_rl 1
  rw [e_w20]
  clear e_w20
  replace hT := hT.on b
  replace rp := rp.on b
  replace zp := zp.on b
  replace rs := rs.on b
  replace zs := zs.on b
  replace rm := rm.on b
  replace zm := zm.on b
  replace rl := rl.on b
  replace BW := Below.step BW b
  clear b
  refine (dplain_as ((Res.none_ _).arg (by omega)) (by omega) hT ev_n).mono ?_
  rintro en w21 ⟨V_rn, v_rn, rfl, rn, b⟩
  replace hT := hT.on b
  replace rp := rp.on b
  replace zp := zp.on b
  replace rs := rs.on b
  replace zs := zs.on b
  replace rm := rm.on b
  replace zm := zm.on b
  replace rl := rl.on b
  replace zl := zl.on b
  replace BW := Below.step BW b
  clear b
  go_wp2_with fail
  obtain ⟨w22, e_w22⟩ : ∃ w', w21.alloc (dob false V_rn v_rn v_rn 0 25) = w' := ⟨_, rfl⟩
  have b : Below w21.heap.size w21 w22 := e_w22 ▸ below_lit _ _
  have hs_w22 : w22.heap.size = w21.heap.size + 1 := e_w22 ▸ size_lit w21 _ rfl
  have zn : DB w22 w21.heap.size 25 false V_rn v_rn v_rn 0 := e_w22 ▸ DB.made w21 rfl 25 false V_rn v_rn v_rn 0
  rw [e_w22]
  clear e_w22
  replace hT := hT.on b
  replace rp := rp.on b
  replace zp := zp.on b
  replace rs := rs.on b
  replace zs := zs.on b
  replace rm := rm.on b
  replace zm := zm.on b
  replace rl := rl.on b
  replace zl := zl.on b
  replace rn := rn.on b
  replace BW := Below.step BW b
  clear b
  refine (dof_as 2 (by omega) (by omega) hT ev_of2).mono ?_
  rintro en w23 ⟨V_r1, v_r1, rfl, r1, b⟩
  replace hT := hT.on b
  replace rp := rp.on b
  replace zp := zp.on b
  replace rs := rs.on b
  replace zs := zs.on b
  replace rm := rm.on b
  replace zm := zm.on b
  replace rl := rl.on b
  replace zl := zl.on b
  replace rn := rn.on b
  replace zn := zn.on b
  replace BW := Below.step BW b
  clear b
  go_wp2_with fail
  refine (dof_as 2 (by omega) (by omega) hT ev_of2).mono ?_
  rintro en w24 ⟨V_r2, v_r2, rfl, r2, b⟩
  replace hT := hT.on b
  replace rp := rp.on b
  replace zp := zp.on b
  replace rs := rs.on b
  replace zs := zs.on b
  replace rm := rm.on b
  replace zm := zm.on b
  replace rl := rl.on b
  replace zl := zl.on b
  replace rn := rn.on b
  replace zn := zn.on b
  replace r1 := r1.on b
  replace BW := Below.step BW b
  clear b
  have l1 := res_n_le r1 (k := 128) (by decide)
  have l2 := res_n_le r2 (k := 128) (by decide)
  go_wp2_with fail
  refine (dsub_as (r1.arg (by omega)) (r2.arg (by omega)) (by omega) (by omega) hT ev_d).mono ?_
  rintro en w25 ⟨V_rd, v_rd, rfl, rd, b⟩
  replace hT := hT.on b
  replace rp := rp.on b
  replace zp := zp.on b
  replace rs := rs.on b
  replace zs := zs.on b
  replace rm := rm.on b
  replace zm := zm.on b
  replace rl := rl.on b
  replace zl := zl.on b
  replace rn := rn.on b
  replace zn := zn.on b
  replace r1 := r1.on b
  replace r2 := r2.on b
  replace BW := Below.step BW b
  clear b
  clear r1 r2
  obtain rfl : v_rd = 0 := rd.zero_n
  have lrp := res_n_le rp (k := 128) (by decide)
  have lrs := res_n_le rs (k := 128) (by decide)
  have lrm := res_n_le rm (k := 128) (by decide)
  have lrl := res_n_le rl (k := 128) (by decide)
  obtain ⟨zpc0, zpc1, zpc2, zpf0, zpf1, zpf2, zpl⟩ := zp.cells
  go_wp2_with fail
  clear zpc0 zpc1 zpc2 zpf0 zpf1 zpf2 zpl
  obtain ⟨w26, e_w26⟩ : ∃ w', w25.alloc (dob false V_rd 0 0 0 25) = w' := ⟨_, rfl⟩
  have b : Below w25.heap.size w25 w26 := e_w26 ▸ below_lit _ _
  have hs_w26 : w26.heap.size = w25.heap.size + 1 := e_w26 ▸ size_lit w25 _ rfl
  have zd : DB w26 w25.heap.size 25 false V_rd 0 0 0 := e_w26 ▸ DB.made w25 rfl 25 false V_rd 0 0 0
  rw [e_w26]
  clear e_w26
  replace hT := hT.on b
  replace rp := rp.on b
  replace zp := zp.on b
  replace rs := rs.on b
  replace zs := zs.on b
  replace rm := rm.on b
  replace zm := zm.on b
  replace rl := rl.on b
  replace zl := zl.on b
  replace rn := rn.on b
  replace zn := zn.on b
  replace rd := rd.on b
  replace BW := Below.step BW b
  clear b
  obtain ⟨w27, e_w27⟩ : ∃ w', w26.alloc (.cells #[.int .u32 3] 61) = w' := ⟨_, rfl⟩
  have b : Below w26.heap.size w26 w27 := e_w27 ▸ below_lit _ _
  have hs_w27 : w27.heap.size = (w25.heap.size + 1) + 1 := e_w27 ▸ size_lit w26 _ hs_w26
  have k3 : Res w27 (some ⟨(w25.heap.size + 1), 0, none⟩) 1 3 := e_w27 ▸ lit_res_at w26 hs_w26 61 [3] 1 3 (canon1 3 (by omega) (by omega)) rfl rfl
  rw [e_w27]
  clear e_w27
  replace hT := hT.on b
  replace rp := rp.on b
  replace zp := zp.on b
  replace rs := rs.on b
  replace zs := zs.on b
  replace rm := rm.on b
  replace zm := zm.on b
  replace rl := rl.on b
  replace zl := zl.on b
  replace rn := rn.on b
  replace zn := zn.on b
  replace rd := rd.on b
  replace zd := zd.on b
  replace BW := Below.step BW b
  clear b
  refine (same_res rp k3 (by omega) (by omega)).mono ?_
  rintro en w28 ⟨rfl, b⟩
  replace hT := hT.on b
  replace rp := rp.on b
  replace zp := zp.on b
  replace rs := rs.on b
  replace zs := zs.on b
  replace rm := rm.on b
  replace zm := zm.on b
  replace rl := rl.on b
  replace zl := zl.on b
  replace rn := rn.on b
  replace zn := zn.on b
  replace rd := rd.on b
  replace zd := zd.on b
  replace k3 := k3.on b
  replace BW := Below.step BW b
  clear b
  clear k3 rp
  obtain ⟨zpc0, zpc1, zpc2, zpf0, zpf1, zpf2, zpl⟩ := zp.cells
  obtain ⟨zsc0, zsc1, zsc2, zsf0, zsf1, zsf2, zsl⟩ := zs.cells
  go_wp2_with fail
  clear zpc0 zpc1 zpc2 zpf0 zpf1 zpf2 zpl zsc0 zsc1 zsc2 zsf0 zsf1 zsf2 zsl
  obtain ⟨w29, e_w29⟩ : ∃ w', w28.alloc (.cells #[.int .u32 1] 61) = w' := ⟨_, rfl⟩
  have b : Below w28.heap.size w28 w29 := e_w29 ▸ below_lit _ _
  have hs_w29 : w29.heap.size = w28.heap.size + 1 := e_w29 ▸ size_lit w28 _ rfl
  have k1 : Res w29 (some ⟨w28.heap.size, 0, none⟩) 1 1 := e_w29 ▸ lit_res_at w28 rfl 61 [1] 1 1 (canon1 1 (by omega) (by omega)) rfl rfl
  rw [e_w29]
  clear e_w29
  replace hT := hT.on b
  replace zp := zp.on b
  replace rs := rs.on b
  replace zs := zs.on b
  replace rm := rm.on b
  replace zm := zm.on b
  replace rl := rl.on b
  replace zl := zl.on b
  replace rn := rn.on b
  replace zn := zn.on b
  replace rd := rd.on b
  replace zd := zd.on b
  replace BW := Below.step BW b
  clear b
  refine (same_res rs k1 (by omega) (by omega)).mono ?_
  rintro en w30 ⟨rfl, b⟩
  replace hT := hT.on b
  replace zp := zp.on b
  replace rs := rs.on b
  replace zs := zs.on b
  replace rm := rm.on b
  replace zm := zm.on b
  replace rl := rl.on b
  replace zl := zl.on b
  replace rn := rn.on b
  replace zn := zn.on b
  replace rd := rd.on b
  replace zd := zd.on b
  replace k1 := k1.on b
  replace BW := Below.step BW b
  clear b
  clear k1 rs zp
  obtain ⟨zsc0, zsc1, zsc2, zsf0, zsf1, zsf2, zsl⟩ := zs.cells
  obtain ⟨zmc0, zmc1, zmc2, zmf0, zmf1, zmf2, zml⟩ := zm.cells
  go_wp2_with fail
  clear zsc0 zsc1 zsc2 zsf0 zsf1 zsf2 zsl zmc0 zmc1 zmc2 zmf0 zmf1 zmf2 zml
  obtain ⟨w31, e_w31⟩ : ∃ w', w30.alloc (.cells #[.int .u32 9] 61) = w' := ⟨_, rfl⟩
  have b : Below w30.heap.size w30 w31 := e_w31 ▸ below_lit _ _
  have hs_w31 : w31.heap.size = w30.heap.size + 1 := e_w31 ▸ size_lit w30 _ rfl
  have k9 : Res w31 (some ⟨w30.heap.size, 0, none⟩) 1 9 := e_w31 ▸ lit_res_at w30 rfl 61 [9] 1 9 (canon1 9 (by omega) (by omega)) rfl rfl
  rw [e_w31]
  clear e_w31
  replace hT := hT.on b
  replace zs := zs.on b
  replace rm := rm.on b
  replace zm := zm.on b
  replace rl := rl.on b
  replace zl := zl.on b
  replace rn := rn.on b
  replace zn := zn.on b
  replace rd := rd.on b
  replace zd := zd.on b
  replace BW := Below.step BW b
  clear b
  refine (same_res rm k9 (by omega) (by omega)).mono ?_
  rintro en w32 ⟨rfl, b⟩
  replace hT := hT.on b
  replace zs := zs.on b
  replace rm := rm.on b
  replace zm := zm.on b
  replace rl := rl.on b
  replace zl := zl.on b
  replace rn := rn.on b
  replace zn := zn.on b
  replace rd := rd.on b
  replace zd := zd.on b
  replace k9 := k9.on b
  replace BW := Below.step BW b
  clear b
  clear k9 rm zs
  obtain ⟨zmc0, zmc1, zmc2, zmf0, zmf1, zmf2, zml⟩ := zm.cells
  obtain ⟨zlc0, zlc1, zlc2, zlf0, zlf1, zlf2, zll⟩ := zl.cells
  go_wp2_with fail
  clear zmc0 zmc1 zmc2 zmf0 zmf1 zmf2 zml zlc0 zlc1 zlc2 zlf0 zlf1 zlf2 zll
  obtain ⟨w33, e_w33⟩ : ∃ w', w32.alloc (.cells #[.int .u32 3] 61) = w' := ⟨_, rfl⟩
  have b : Below w32.heap.size w32 w33 := e_w33 ▸ below_lit _ _
  have hs_w33 : w33.heap.size = w32.heap.size + 1 := e_w33 ▸ size_lit w32 _ rfl
  have k3 : Res w33 (some ⟨w32.heap.size, 0, none⟩) 1 3 := e_w33 ▸ lit_res_at w32 rfl 61 [3] 1 3 (canon1 3 (by omega) (by omega)) rfl rfl
  rw [e_w33]
  clear e_w33
  replace hT := hT.on b
  replace zm := zm.on b
  replace rl := rl.on b
  replace zl := zl.on b
  replace rn := rn.on b
  replace zn := zn.on b
  replace rd := rd.on b
  replace zd := zd.on b
  replace BW := Below.step BW b
  clear b
  refine (same_res rl k3 (by omega) (by omega)).mono ?_
  rintro en w34 ⟨rfl, b⟩
  replace hT := hT.on b
  replace zm := zm.on b
  replace rl := rl.on b
  replace zl := zl.on b
  replace rn := rn.on b
  replace zn := zn.on b
  replace rd := rd.on b
  replace zd := zd.on b
  replace k3 := k3.on b
  replace BW := Below.step BW b
  clear b
  clear k3 rl zm
  obtain ⟨zlc0, zlc1, zlc2, zlf0, zlf1, zlf2, zll⟩ := zl.cells
  obtain ⟨zdc0, zdc1, zdc2, zdf0, zdf1, zdf2, zdl⟩ := zd.cells
  go_wp2_with fail
  refine (dof_as 4 (by omega) (by omega) hT ev_of4).mono ?_
  rintro en w35 ⟨V_r1, v_r1, rfl, r1, b⟩
  clear zlc0 zlc1 zlc2 zlf0 zlf1 zlf2 zll zdc0 zdc1 zdc2 zdf0 zdf1 zdf2 zdl
  replace hT := hT.on b
  replace zl := zl.on b
  replace rn := rn.on b
  replace zn := zn.on b
  replace rd := rd.on b
  replace zd := zd.on b
  replace BW := Below.step BW b
  clear b
  have l1 := res_n_le r1 (k := 128) (by decide)
  go_wp2_with fail
  obtain ⟨w36, e_w36⟩ : ∃ w', w35.alloc (.cells #[.int .u32 1] 61) = w' := ⟨_, rfl⟩
  have b : Below w35.heap.size w35 w36 := e_w36 ▸ below_lit _ _
  have hs_w36 : w36.heap.size = w35.heap.size + 1 := e_w36 ▸ size_lit w35 _ rfl
  have a1 : Arg w36 (some ⟨w35.heap.size, 0, none⟩) 1 1 1 := e_w36 ▸ lit_arg_at w35 rfl 61 [1] 1 1 (canon1 1 (by omega) (by omega)).1 rfl (by omega) rfl
  rw [e_w36]
  clear e_w36
  replace hT := hT.on b
  replace zl := zl.on b
  replace rn := rn.on b
  replace zn := zn.on b
  replace rd := rd.on b
  replace zd := zd.on b
  replace r1 := r1.on b
  replace BW := Below.step BW b
  clear b
  refine (dsame_eq (r1.arg (by omega)) a1 (by omega) (by omega) hT (may_small (by decide) (by decide) (by decide)) rfl).mono ?_
  rintro en w37 ⟨rfl, b⟩
  replace hT := hT.on b
  replace zl := zl.on b
  replace rn := rn.on b
  replace zn := zn.on b
  replace rd := rd.on b
  replace zd := zd.on b
  replace r1 := r1.on b
  replace a1 := a1.on b
  replace BW := Below.step BW b
  clear b
  go_wp2_with fail
  go_ret
  exact ⟨rfl, BW⟩
end Go.Proofs.YthaehfdjldjdiaaDoor
