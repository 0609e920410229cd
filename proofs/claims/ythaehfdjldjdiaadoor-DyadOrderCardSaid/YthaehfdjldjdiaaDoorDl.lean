
/-
  The walk of the law DyadOrder.
-/
import Derived.Test.YthaehfdjldjdiaaDoorDk
namespace Go.Proofs.YthaehfdjldjdiaaDoor
open Go.RowKit
set_option linter.unusedVariables false

theorem cmpI_sub (u v : Int) : cmpI (u - v) 0 = cmpI u v := by
  unfold cmpI
  by_cases h1 : u < v
  · rw [if_pos h1, if_pos (by omega)]
  · rw [if_neg h1, if_neg (by omega)]
    by_cases h2 : v < u
    · rw [if_pos h2, if_pos (by omega)]
    · rw [if_neg h2, if_neg (by omega)]
theorem cmpI_turn (u v : Int) : cmpI v u = -cmpI u v := by
  unfold cmpI
  rcases Int.lt_trichotomy u v with h | h | h
  · rw [if_neg (by omega), if_pos h, if_pos h]; rfl
  · rw [if_neg (by omega), if_neg (by omega), if_neg (by omega), if_neg (by omega)]; rfl
  · rw [if_pos h, if_neg (by omega), if_pos h]
theorem cmpI_shift (u v k : Int) : cmpI (u + k) (v + k) = cmpI u v := by
  unfold cmpI
  rcases Int.lt_trichotomy u v with h | h | h
  · rw [if_pos h, if_pos (by omega)]
  · rw [if_neg (by omega), if_neg (by omega), if_neg (by omega), if_neg (by omega)]
  · rw [if_neg (by omega), if_pos (by omega), if_neg (by omega), if_pos h]
theorem order_math {a b c : D} (ha : blen a.x ≤ 640) (hb : blen b.x ≤ 640) (hc : blen c.x ≤ 640) (a1 : -1000 ≤ a.e) (a2 : a.e ≤ 1000) (b1 : -1000 ≤ b.e) (b2 : b.e ≤ 1000) (c1 : -1000 ≤ c.e) (c2 : c.e ≤ 1000) :
    ∃ (d s t : D) (q r : Int), d.may = true ∧ s.may = true ∧ t.may = true ∧ addS a b.turn = (d, 0) ∧ addS a c = (s, 0) ∧ addS b c = (t, 0) ∧
      cmpS a b = (q, 0) ∧ cmpS d ⟨false, 0, 0⟩ = (q, 0) ∧ cmpS b a = (r, 0) ∧ cmpS s t = (q, 0) ∧ -1 ≤ q ∧ q ≤ 1 ∧ -1 ≤ r ∧ r ≤ 1 ∧ (q == -r) = true := by
  obtain ⟨ma, ia⟩ := small_in ha a1 a2
  obtain ⟨mb, ib⟩ := small_in hb b1 b2
  obtain ⟨mc, ic⟩ := small_in hc c1 c2
  have mb' : b.turn.may = true := mb
  obtain ⟨ed, md, _⟩ := addS_to (hi' := 1641) 2641 ma mb' ia (inn_turn ib) (by omega) (by omega) (by omega) (by omega) (by omega) (by omega)
  obtain ⟨es, ms, _⟩ := addS_to (hi' := 1641) 2641 ma mc ia ic (by omega) (by omega) (by omega) (by omega) (by omega) (by omega)
  obtain ⟨et, mt, _⟩ := addS_to (hi' := 1641) 2641 mb mc ib ic (by omega) (by omega) (by omega) (by omega) (by omega) (by omega)
  have mz : D.may ⟨false, 0, 0⟩ = true := may_small (by decide) (by decide) (by decide)
  have v1 := D.add_vl (a := a) (b := b.turn) (by omega) (by show -40000 ≤ b.e; omega)
  have v2 := D.add_vl (a := a) (b := c) (by omega) (by omega)
  have v3 := D.add_vl (a := b) (b := c) (by omega) (by omega)
  have v4 : D.vl ⟨false, 0, 0⟩ = 0 := D.vl_zero.2 rfl
  rw [D.turn_vl] at v1
  obtain ⟨q1, q2⟩ := cmpI_bd a.vl b.vl
  obtain ⟨r1, r2⟩ := cmpI_bd b.vl a.vl
  refine ⟨_, _, _, cmpI a.vl b.vl, cmpI b.vl a.vl, md, ms, mt, ed, es, et, cmpS_ok ma mb, ?_, cmpS_ok mb ma, ?_, q1, q2, r1, r2, ?_⟩
  · rw [cmpS_ok md mz, v1, v4, ← Int.sub_eq_add_neg, cmpI_sub]
  · rw [cmpS_ok ms mt, v2, v3, cmpI_shift]
  · rw [cmpI_turn a.vl b.vl]; simp

set_option maxHeartbeats 4000000 in
set_option maxRecDepth 100000 in
theorem order_main {A1 A2 A3 : Option Addr} {n1 c1 n2 c2 n3 c3 x y z : Nat} {na nb nc : Bool} {ea eb ec : Int} {w : World} (h1 : Arg w A1 n1 c1 x) (h2 : Arg w A2 n2 c2 y) (h3 : Arg w A3 n3 c3 z) (hT : Tab w)
    (s1 : n1 ≤ 20) (s2 : n2 ≤ 20) (s3 : n3 ≤ 20) (ea1 : -1000 ≤ ea) (ea2 : ea ≤ 1000) (eb1 : -1000 ≤ eb) (eb2 : eb ≤ 1000) (ec1 : -1000 ≤ ec) (ec2 : ec ≤ 1000) :
    Calls Tryd.prog 6 #[.agg #[.bool na, .slice A1 n1 c1, .int .i64 ea], .agg #[.bool nb, .slice A2 n2 c2, .int .i64 eb], .agg #[.bool nc, .slice A3 n3 c3, .int .i64 ec]] w fun e w' => e = .returned (.bool true) ∧ Below w.heap.size w w' := by
  have q1 := h1.blen
  have q2 := h2.blen
  have q3 := h3.blen
  obtain ⟨⟨dn, dx, de⟩, ⟨sn, sx, se⟩, ⟨tn, tx, te⟩, q, r, md, ms, mt, ed, es, et, ex, ey, ez, ew, qb1, qb2, rb1, rb2, hqr⟩ := order_math (a := ⟨na, x, ea⟩) (b := ⟨nb, y, eb⟩) (c := ⟨nc, z, ec⟩) (by show blen x ≤ 640; omega) (by show blen y ≤ 640; omega) (by show blen z ≤ 640; omega) ea1 ea2 eb1 eb2 ec1 ec2
  replace md := Lib.hid md
  replace ms := Lib.hid ms
  replace mt := Lib.hid mt
  replace ed := Lib.hid ed
  replace es := Lib.hid es
  replace et := Lib.hid et
  replace ex := Lib.hid ex
  replace ey := Lib.hid ey
  replace ez := Lib.hid ez
  replace ew := Lib.hid ew
  go_enter Tryd.func6, Tryd.ntmps6
  go_wp2_with fail
  obtain ⟨W, hW, za, zb, zc, BW, sW⟩ := frame3 w 25 25 25 na A1 n1 c1 ea nb A2 n2 c2 eb nc A3 n3 c3 ec
  rw [hW]
  clear hW
  replace hT := hT.on BW
  replace h1 := h1.on BW
  replace h2 := h2.on BW
  replace h3 := h3.on BW
  refine (awake2_any hT).mono ?_
  rintro en w1 ⟨rfl, b⟩
  replace za := za.on b
  replace zb := zb.on b
  replace zc := zc.on b
  replace hT := hT.on b
  replace h1 := h1.on b
  replace h2 := h2.on b
  replace h3 := h3.on b
  replace BW := Below.step BW b
  clear b
  obtain ⟨zac0, zac1, zac2, zaf0, zaf1, zaf2, zal⟩ := za.cells
  obtain ⟨zbc0, zbc1, zbc2, zbf0, zbf1, zbf2, zbl⟩ := zb.cells
  obtain ⟨zcc0, zcc1, zcc2, zcf0, zcf1, zcf2, zcl⟩ := zc.cells
  go_wp2_with fail
  have ix0 := idx0 na A1 n1 c1 ea nb A2 n2 c2 eb nc A3 n3 c3 ec
  have ix1 := idx1 na A1 n1 c1 ea nb A2 n2 c2 eb nc A3 n3 c3 ec
  have ix2 := idx2 na A1 n1 c1 ea nb A2 n2 c2 eb nc A3 n3 c3 ec
  refine wp_loop_rounds 4 ?_
  rw [rounds_succ]
  go_wp2_with fail
  clear zac0 zac1 zac2 zaf0 zaf1 zaf2 zal zbc0 zbc1 zbc2 zbf0 zbf1 zbf2 zbl zcc0 zcc1 zcc2 zcf0 zcf1 zcf2 zcl
  obtain ⟨w2, e_w2⟩ : ∃ w', w1.alloc (dob na A1 n1 c1 ea 25) = w' := ⟨_, rfl⟩
  have b : Below w1.heap.size w1 w2 := e_w2 ▸ below_lit _ _
  have hs_w2 : w2.heap.size = w1.heap.size + 1 := e_w2 ▸ size_lit w1 _ rfl
  have y0 : DB w2 w1.heap.size 25 na A1 n1 c1 ea := e_w2 ▸ DB.made w1 rfl 25 na A1 n1 c1 ea
  rw [e_w2]
  clear e_w2
  replace za := za.on b
  replace zb := zb.on b
  replace zc := zc.on b
  replace hT := hT.on b
  replace h1 := h1.on b
  replace h2 := h2.on b
  replace h3 := h3.on b
  replace BW := Below.step BW b
  clear b
  clear y0
  rw [rounds_succ]
  go_wp2_with fail
  obtain ⟨w3, e_w3⟩ : ∃ w', w2.alloc (dob nb A2 n2 c2 eb 25) = w' := ⟨_, rfl⟩
  have b : Below w2.heap.size w2 w3 := e_w3 ▸ below_lit _ _
  have hs_w3 : w3.heap.size = w2.heap.size + 1 := e_w3 ▸ size_lit w2 _ rfl
  have y1 : DB w3 w2.heap.size 25 nb A2 n2 c2 eb := e_w3 ▸ DB.made w2 rfl 25 nb A2 n2 c2 eb
  rw [e_w3]
  clear e_w3
  replace za := za.on b
  replace zb := zb.on b
  replace zc := zc.on b
  replace hT := hT.on b
  replace h1 := h1.on b
  replace h2 := h2.on b
  replace h3 := h3.on b
  replace BW := Below.step BW b
  clear b
  clear y1
  rw [rounds_succ]
  go_wp2_with fail
  obtain ⟨w4, e_w4⟩ : ∃ w', w3.alloc (dob nc A3 n3 c3 ec 25) = w' := ⟨_, rfl⟩
  have b : Below w3.heap.size w3 w4 := e_w4 ▸ below_lit _ _
  have hs_w4 : w4.heap.size = w3.heap.size + 1 := e_w4 ▸ size_lit w3 _ rfl
  have y2 : DB w4 w3.heap.size 25 nc A3 n3 c3 ec := e_w4 ▸ DB.made w3 rfl 25 nc A3 n3 c3 ec
  rw [e_w4]
  clear e_w4
  replace za := za.on b
  replace zb := zb.on b
  replace zc := zc.on b
  replace hT := hT.on b
  replace h1 := h1.on b
  replace h2 := h2.on b
  replace h3 := h3.on b
  replace BW := Below.step BW b
  clear b
  clear y2
  clear ix0 ix1 ix2
  rw [rounds_succ]
  obtain ⟨zac0, zac1, zac2, zaf0, zaf1, zaf2, zal⟩ := za.cells
  obtain ⟨zbc0, zbc1, zbc2, zbf0, zbf1, zbf2, zbl⟩ := zb.cells
  go_wp2_with fail
  refine (dsub_as h1 h2 (by omega) (by omega) hT ed.out).mono ?_
  rintro en w5 ⟨V_Rd, v_Rd, rfl, Rd, b⟩
  clear zac0 zac1 zac2 zaf0 zaf1 zaf2 zal zbc0 zbc1 zbc2 zbf0 zbf1 zbf2 zbl
  replace za := za.on b
  replace zb := zb.on b
  replace zc := zc.on b
  replace hT := hT.on b
  replace h1 := h1.on b
  replace h2 := h2.on b
  replace h3 := h3.on b
  replace BW := Below.step BW b
  clear b
  have l_Rd := res_n_le Rd (k := 128) (may_blen md.out)
  obtain ⟨zac0, zac1, zac2, zaf0, zaf1, zaf2, zal⟩ := za.cells
  obtain ⟨zbc0, zbc1, zbc2, zbf0, zbf1, zbf2, zbl⟩ := zb.cells
  go_wp2_with fail
  clear zac0 zac1 zac2 zaf0 zaf1 zaf2 zal zbc0 zbc1 zbc2 zbf0 zbf1 zbf2 zbl
  obtain ⟨w6, e_w6⟩ : ∃ w', w5.alloc (dob dn V_Rd v_Rd v_Rd de 25) = w' := ⟨_, rfl⟩
  have b : Below w5.heap.size w5 w6 := e_w6 ▸ below_lit _ _
  have hs_w6 : w6.heap.size = w5.heap.size + 1 := e_w6 ▸ size_lit w5 _ rfl
  have zd : DB w6 w5.heap.size 25 dn V_Rd v_Rd v_Rd de := e_w6 ▸ DB.made w5 rfl 25 dn V_Rd v_Rd v_Rd de
  rw [e_w6]
  clear e_w6
  replace za := za.on b
  replace zb := zb.on b
  replace zc := zc.on b
  replace hT := hT.on b
  replace h1 := h1.on b
  replace h2 := h2.on b
  replace h3 := h3.on b
  replace Rd := Rd.on b
  replace BW := Below.step BW b
  clear b
  refine (dcmp_as h1 h2 (by omega) (by omega) hT ex.out).mono ?_
  rintro en w7 ⟨rfl, b⟩
  replace za := za.on b
  replace zb := zb.on b
  replace zc := zc.on b
  replace hT := hT.on b
  replace h1 := h1.on b
  replace h2 := h2.on b
  replace h3 := h3.on b
  replace Rd := Rd.on b
  replace zd := zd.on b
  replace BW := Below.step BW b
  clear b
  obtain ⟨zdc0, zdc1, zdc2, zdf0, zdf1, zdf2, zdl⟩ := zd.cells
  go_wp2_with fail
  refine (dcmp_as (Rd.arg (by omega)) ((Res.none_ _).arg (by omega)) (by omega) (by omega) hT ey.out).mono ?_
  rintro en w8 ⟨rfl, b⟩
  clear zdc0 zdc1 zdc2 zdf0 zdf1 zdf2 zdl
  replace za := za.on b
  replace zb := zb.on b
  replace zc := zc.on b
  replace hT := hT.on b
  replace h1 := h1.on b
  replace h2 := h2.on b
  replace h3 := h3.on b
  replace Rd := Rd.on b
  replace zd := zd.on b
  replace BW := Below.step BW b
  clear b
  obtain ⟨zbc0, zbc1, zbc2, zbf0, zbf1, zbf2, zbl⟩ := zb.cells
  obtain ⟨zac0, zac1, zac2, zaf0, zaf1, zaf2, zal⟩ := za.cells
  go_wp2_with fail
  refine (dcmp_as h2 h1 (by omega) (by omega) hT ez.out).mono ?_
  rintro en w9 ⟨rfl, b⟩
  clear zbc0 zbc1 zbc2 zbf0 zbf1 zbf2 zbl zac0 zac1 zac2 zaf0 zaf1 zaf2 zal
  replace za := za.on b
  replace zb := zb.on b
  replace zc := zc.on b
  replace hT := hT.on b
  replace h1 := h1.on b
  replace h2 := h2.on b
  replace h3 := h3.on b
  replace Rd := Rd.on b
  replace zd := zd.on b
  replace BW := Below.step BW b
  clear b
  obtain ⟨zac0, zac1, zac2, zaf0, zaf1, zaf2, zal⟩ := za.cells
  obtain ⟨zcc0, zcc1, zcc2, zcf0, zcf1, zcf2, zcl⟩ := zc.cells
  go_wp2_with fail
  refine (dadd_as h1 h3 (by omega) (by omega) hT es.out).mono ?_
  rintro en w10 ⟨V_Rs, v_Rs, rfl, Rs, b⟩
  clear zac0 zac1 zac2 zaf0 zaf1 zaf2 zal zcc0 zcc1 zcc2 zcf0 zcf1 zcf2 zcl
  replace za := za.on b
  replace zb := zb.on b
  replace zc := zc.on b
  replace hT := hT.on b
  replace h1 := h1.on b
  replace h2 := h2.on b
  replace h3 := h3.on b
  replace Rd := Rd.on b
  replace zd := zd.on b
  replace BW := Below.step BW b
  clear b
  have l_Rs := res_n_le Rs (k := 128) (may_blen ms.out)
  obtain ⟨zbc0, zbc1, zbc2, zbf0, zbf1, zbf2, zbl⟩ := zb.cells
  obtain ⟨zcc0, zcc1, zcc2, zcf0, zcf1, zcf2, zcl⟩ := zc.cells
  go_wp2_with fail
  clear zbc0 zbc1 zbc2 zbf0 zbf1 zbf2 zbl zcc0 zcc1 zcc2 zcf0 zcf1 zcf2 zcl
  obtain ⟨w11, e_w11⟩ : ∃ w', w10.alloc (dob sn V_Rs v_Rs v_Rs se 25) = w' := ⟨_, rfl⟩
  have b : Below w10.heap.size w10 w11 := e_w11 ▸ below_lit _ _
  have hs_w11 : w11.heap.size = w10.heap.size + 1 := e_w11 ▸ size_lit w10 _ rfl
  have zs : DB w11 w10.heap.size 25 sn V_Rs v_Rs v_Rs se := e_w11 ▸ DB.made w10 rfl 25 sn V_Rs v_Rs v_Rs se
  rw [e_w11]
  clear e_w11
  replace za := za.on b
  replace zb := zb.on b
  replace zc := zc.on b
  replace hT := hT.on b
  replace h1 := h1.on b
  replace h2 := h2.on b
  replace h3 := h3.on b
  replace Rd := Rd.on b
  replace zd := zd.on b
  replace Rs := Rs.on b
  replace BW := Below.step BW b
  clear b
  refine (dadd_as h2 h3 (by omega) (by omega) hT et.out).mono ?_
  rintro en w12 ⟨V_Rt, v_Rt, rfl, Rt, b⟩
  replace za := za.on b
  replace zb := zb.on b
  replace zc := zc.on b
  replace hT := hT.on b
  replace h1 := h1.on b
  replace h2 := h2.on b
  replace h3 := h3.on b
  replace Rd := Rd.on b
  replace zd := zd.on b
  replace Rs := Rs.on b
  replace zs := zs.on b
  replace BW := Below.step BW b
  clear b
  have l_Rt := res_n_le Rt (k := 128) (may_blen mt.out)
  obtain ⟨zsc0, zsc1, zsc2, zsf0, zsf1, zsf2, zsl⟩ := zs.cells
  go_wp2_with fail
  clear zsc0 zsc1 zsc2 zsf0 zsf1 zsf2 zsl
  obtain ⟨w13, e_w13⟩ : ∃ w', w12.alloc (dob tn V_Rt v_Rt v_Rt te 25) = w' := ⟨_, rfl⟩
  have b : Below w12.heap.size w12 w13 := e_w13 ▸ below_lit _ _
  have hs_w13 : w13.heap.size = w12.heap.size + 1 := e_w13 ▸ size_lit w12 _ rfl
  have zt : DB w13 w12.heap.size 25 tn V_Rt v_Rt v_Rt te := e_w13 ▸ DB.made w12 rfl 25 tn V_Rt v_Rt v_Rt te
  rw [e_w13]
  clear e_w13
  replace za := za.on b
  replace zb := zb.on b
  replace zc := zc.on b
  replace hT := hT.on b
  replace h1 := h1.on b
  replace h2 := h2.on b
  replace h3 := h3.on b
  replace Rd := Rd.on b
  replace zd := zd.on b
  replace Rs := Rs.on b
  replace zs := zs.on b
  replace Rt := Rt.on b
  replace BW := Below.step BW b
  clear b
  refine (dcmp_as (Rs.arg (by omega)) (Rt.arg (by omega)) (by omega) (by omega) hT ew.out).mono ?_
  rintro en w14 ⟨rfl, b⟩
  replace za := za.on b
  replace zb := zb.on b
  replace zc := zc.on b
  replace hT := hT.on b
  replace h1 := h1.on b
  replace h2 := h2.on b
  replace h3 := h3.on b
  replace Rd := Rd.on b
  replace zd := zd.on b
  replace Rs := Rs.on b
  replace zs := zs.on b
  replace Rt := Rt.on b
  replace zt := zt.on b
  replace BW := Below.step BW b
  clear b
  go_wp2_with fail
  go_ret
  exact ⟨rfl, BW⟩
end Go.Proofs.YthaehfdjldjdiaaDoor
