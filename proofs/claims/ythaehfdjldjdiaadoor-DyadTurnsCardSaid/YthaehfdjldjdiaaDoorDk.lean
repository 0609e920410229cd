
/-
  The walk of the law DyadTurns.
-/
import Derived.Test.YthaehfdjldjdiaaDoorDj
import Derived.LoopN
namespace Go.Proofs.YthaehfdjldjdiaaDoor
open Go.RowKit
set_option linter.unusedVariables false

theorem may_blen {n : Bool} {x : Nat} {e : Int} (h : D.may ⟨n, x, e⟩ = true) : blen x ≤ 32 * 128 := ((D.may_iff _).1 h).1
theorem turns_math {a b c : D} (ha : blen a.x ≤ 640) (hb : blen b.x ≤ 640) (hc : blen c.x ≤ 640) (a1 : -1000 ≤ a.e) (a2 : a.e ≤ 1000) (b1 : -1000 ≤ b.e) (b2 : b.e ≤ 1000) (c1 : -1000 ≤ c.e) (c2 : c.e ≤ 1000) :
    ∃ s d p q r : D, a.may = true ∧ s.may = true ∧ d.may = true ∧ p.may = true ∧ q.may = true ∧ r.may = true ∧
      addS a b = (s, 0) ∧ addS b a = (s, 0) ∧ addS s b.turn = (d, 0) ∧ mulS s c = (p, 0) ∧ mulS a c = (q, 0) ∧ mulS b c = (r, 0) ∧ addS q r = (p, 0) ∧ mulS c a = (q, 0) ∧ d.vl = a.vl := by
  obtain ⟨ma, ia⟩ := small_in ha a1 a2
  obtain ⟨mb, ib⟩ := small_in hb b1 b2
  obtain ⟨mc, ic⟩ := small_in hc c1 c2
  obtain ⟨es, ms, is_⟩ := addS_to (hi' := 1641) 2641 ma mb ia ib (by omega) (by omega) (by omega) (by omega) (by omega) (by omega)
  obtain ⟨ed, md, _⟩ := addS_to (hi' := 1642) 2642 ms (show b.turn.may = true from mb) is_ (inn_turn (inn_more ib (Int.le_refl _) (by omega) (Nat.le_refl _))) (by omega) (by omega) (by omega) (by omega) (by omega) (by omega)
  obtain ⟨ep, mp, ip⟩ := mulS_in ms mc is_ ic (by omega) (by omega) (by omega)
  obtain ⟨eq, mq, iq⟩ := mulS_in ma mc ia ic (by omega) (by omega) (by omega)
  obtain ⟨er, mr, ir⟩ := mulS_in mb mc ib ic (by omega) (by omega) (by omega)
  obtain ⟨ev, mv, iv⟩ := mulS_in mc ma ic ia (by omega) (by omega) (by omega)
  have sl : -8192 ≤ (a.add b).e := ((D.may_iff _).1 ms).2.1
  have ql : -8192 ≤ (a.mul c).e := ((D.may_iff _).1 mq).2.1
  have rl : -8192 ≤ (b.mul c).e := ((D.may_iff _).1 mr).2.1
  have pl : -8192 ≤ ((a.add b).mul c).e := ((D.may_iff _).1 mp).2.1
  have vl : -8192 ≤ (c.mul a).e := ((D.may_iff _).1 mv).2.1
  have v1 := D.add_vl (a := a) (b := b) (by omega) (by omega)
  have v2 := Lib.hid (D.mul_vl (a := a.add b) (b := c) (by omega) (by omega))
  have v3 := Lib.hid (D.mul_vl (a := a) (b := c) (by omega) (by omega))
  have v4 := Lib.hid (D.mul_vl (a := b) (b := c) (by omega) (by omega))
  have v5 := Lib.hid (D.mul_vl (a := c) (b := a) (by omega) (by omega))
  have t1 : b.add a = a.add b := (D.add_of (by omega) (by omega) (by omega) (D.add_plain a b) (by rw [v1]; exact Int.add_comm _ _)).symm
  have t2 : (a.mul c).add (b.mul c) = (a.add b).mul c := by
    refine (D.add_of (by omega) (by omega) (by omega) (D.mul_plain _ _) ?_).symm
    refine Int.eq_of_mul_eq_mul_right (Int.ne_of_gt (pow_pos_int 40000)) ?_
    rw [v2.out, v1, Int.add_mul, Int.add_mul, v3.out, v4.out]
  have t3 : c.mul a = a.mul c := (D.mul_of (by omega) (by omega) (by omega) (D.mul_plain _ _) (by rw [v3.out, Int.mul_comm])).symm
  refine ⟨a.add b, (a.add b).add b.turn, (a.add b).mul c, a.mul c, b.mul c, ma, ms, md, mp, mq, mr, es, ?_, ed, ep, eq, er, ?_, ?_, ?_⟩
  · rw [addS_ok mb ma, t1, tld_ok ms]
  · rw [addS_ok mq mr, t2, tld_ok mp]
  · rw [ev, t3]
  · rw [D.add_vl (by omega) (by show -40000 ≤ b.e; omega), D.turn_vl, v1]
    omega
theorem idx0 (na : Bool) (A1 : Option Addr) (n1 c1 : Nat) (ea : Int) (nb : Bool) (A2 : Option Addr) (n2 c2 : Nat) (eb : Int) (nc : Bool) (A3 : Option Addr) (n3 c3 : Nat) (ec : Int) (w : World) : (Instr.index 56 (.agg #[.bool na, .slice A1 n1 c1, .int .i64 ea, .bool nb, .slice A2 n2 c2, .int .i64 eb, .bool nc, .slice A3 n3 c3, .int .i64 ec]) (.int .i64 0)).run Tryd.prog w = .ok (.agg #[.bool na, .slice A1 n1 c1, .int .i64 ea]) w := by kernel_rfl
theorem idx1 (na : Bool) (A1 : Option Addr) (n1 c1 : Nat) (ea : Int) (nb : Bool) (A2 : Option Addr) (n2 c2 : Nat) (eb : Int) (nc : Bool) (A3 : Option Addr) (n3 c3 : Nat) (ec : Int) (w : World) : (Instr.index 56 (.agg #[.bool na, .slice A1 n1 c1, .int .i64 ea, .bool nb, .slice A2 n2 c2, .int .i64 eb, .bool nc, .slice A3 n3 c3, .int .i64 ec]) (.int .i64 1)).run Tryd.prog w = .ok (.agg #[.bool nb, .slice A2 n2 c2, .int .i64 eb]) w := by kernel_rfl
theorem idx2 (na : Bool) (A1 : Option Addr) (n1 c1 : Nat) (ea : Int) (nb : Bool) (A2 : Option Addr) (n2 c2 : Nat) (eb : Int) (nc : Bool) (A3 : Option Addr) (n3 c3 : Nat) (ec : Int) (w : World) : (Instr.index 56 (.agg #[.bool na, .slice A1 n1 c1, .int .i64 ea, .bool nb, .slice A2 n2 c2, .int .i64 eb, .bool nc, .slice A3 n3 c3, .int .i64 ec]) (.int .i64 2)).run Tryd.prog w = .ok (.agg #[.bool nc, .slice A3 n3 c3, .int .i64 ec]) w := by kernel_rfl
theorem jdx0 (w : World) : (Instr.index 57 (.agg #[.int .i64 0, .int .i64 0, .int .i64 0, .int .i64 0, .int .i64 0, .int .i64 0, .int .i64 0, .int .i64 0]) (.int .i64 0)).run Tryd.prog w = .ok (.int .i64 0) w := by kernel_rfl
theorem jdx1 (w : World) : (Instr.index 57 (.agg #[.int .i64 0, .int .i64 0, .int .i64 0, .int .i64 0, .int .i64 0, .int .i64 0, .int .i64 0, .int .i64 0]) (.int .i64 1)).run Tryd.prog w = .ok (.int .i64 0) w := by kernel_rfl
theorem jdx2 (w : World) : (Instr.index 57 (.agg #[.int .i64 0, .int .i64 0, .int .i64 0, .int .i64 0, .int .i64 0, .int .i64 0, .int .i64 0, .int .i64 0]) (.int .i64 2)).run Tryd.prog w = .ok (.int .i64 0) w := by kernel_rfl
theorem jdx3 (w : World) : (Instr.index 57 (.agg #[.int .i64 0, .int .i64 0, .int .i64 0, .int .i64 0, .int .i64 0, .int .i64 0, .int .i64 0, .int .i64 0]) (.int .i64 3)).run Tryd.prog w = .ok (.int .i64 0) w := by kernel_rfl
theorem jdx4 (w : World) : (Instr.index 57 (.agg #[.int .i64 0, .int .i64 0, .int .i64 0, .int .i64 0, .int .i64 0, .int .i64 0, .int .i64 0, .int .i64 0]) (.int .i64 4)).run Tryd.prog w = .ok (.int .i64 0) w := by kernel_rfl
theorem jdx5 (w : World) : (Instr.index 57 (.agg #[.int .i64 0, .int .i64 0, .int .i64 0, .int .i64 0, .int .i64 0, .int .i64 0, .int .i64 0, .int .i64 0]) (.int .i64 5)).run Tryd.prog w = .ok (.int .i64 0) w := by kernel_rfl
theorem jdx6 (w : World) : (Instr.index 57 (.agg #[.int .i64 0, .int .i64 0, .int .i64 0, .int .i64 0, .int .i64 0, .int .i64 0, .int .i64 0, .int .i64 0]) (.int .i64 6)).run Tryd.prog w = .ok (.int .i64 0) w := by kernel_rfl
theorem jdx7 (w : World) : (Instr.index 57 (.agg #[.int .i64 0, .int .i64 0, .int .i64 0, .int .i64 0, .int .i64 0, .int .i64 0, .int .i64 0, .int .i64 0]) (.int .i64 7)).run Tryd.prog w = .ok (.int .i64 0) w := by kernel_rfl
set_option maxHeartbeats 4000000 in
set_option maxRecDepth 100000 in
theorem turns_main {A1 A2 A3 : Option Addr} {n1 c1 n2 c2 n3 c3 x y z : Nat} {na nb nc : Bool} {ea eb ec : Int} {w : World} (h1 : Arg w A1 n1 c1 x) (h2 : Arg w A2 n2 c2 y) (h3 : Arg w A3 n3 c3 z) (hT : Tab w)
    (s1 : n1 ≤ 20) (s2 : n2 ≤ 20) (s3 : n3 ≤ 20) (ea1 : -1000 ≤ ea) (ea2 : ea ≤ 1000) (eb1 : -1000 ≤ eb) (eb2 : eb ≤ 1000) (ec1 : -1000 ≤ ec) (ec2 : ec ≤ 1000) :
    Calls Tryd.prog 5 #[.agg #[.bool na, .slice A1 n1 c1, .int .i64 ea], .agg #[.bool nb, .slice A2 n2 c2, .int .i64 eb], .agg #[.bool nc, .slice A3 n3 c3, .int .i64 ec]] w fun e w' => e = .returned (.bool true) ∧ Below w.heap.size w w' := by
  have q1 := h1.blen
  have q2 := h2.blen
  have q3 := h3.blen
  obtain ⟨⟨sn, sx, se⟩, ⟨dn, dx, de⟩, ⟨pn, px, pe⟩, ⟨qn, qx, qe⟩, ⟨rn, rx, re⟩, ma, ms, md, mp, mq, mr, es, et, ed, ep, eq, er, eu, ev, vd⟩ := turns_math (a := ⟨na, x, ea⟩) (b := ⟨nb, y, eb⟩) (c := ⟨nc, z, ec⟩) (by show blen x ≤ 640; omega) (by show blen y ≤ 640; omega) (by show blen z ≤ 640; omega) ea1 ea2 eb1 eb2 ec1 ec2
  replace ma := Lib.hid ma
  replace ms := Lib.hid ms
  replace md := Lib.hid md
  replace mp := Lib.hid mp
  replace mq := Lib.hid mq
  replace mr := Lib.hid mr
  replace es := Lib.hid es
  replace et := Lib.hid et
  replace ed := Lib.hid ed
  replace ep := Lib.hid ep
  replace eq := Lib.hid eq
  replace er := Lib.hid er
  replace eu := Lib.hid eu
  replace ev := Lib.hid ev
  replace vd := Lib.hid vd
  go_enter Tryd.func5, Tryd.ntmps5
  go_wp2_with fail
  obtain ⟨W, hW, za, zb, zc, BW, sW⟩ := frame3 w 25 25 25 na A1 n1 c1 ea nb A2 n2 c2 eb nc A3 n3 c3 ec
  rw [hW]
  clear hW
  replace hT := hT.on BW
  replace h1 := h1.on BW
  replace h2 := h2.on BW
  replace h3 := h3.on BW
  refine (awake2_any hT).mono ?_
  rintro en w1 ⟨rfl, b⟩
  replace za := za.on b
  replace zb := zb.on b
  replace zc := zc.on b
  replace hT := hT.on b
  replace h1 := h1.on b
  replace h2 := h2.on b
  replace h3 := h3.on b
  replace BW := Below.step BW b
  clear b
  obtain ⟨zac0, zac1, zac2, zaf0, zaf1, zaf2, zal⟩ := za.cells
  obtain ⟨zbc0, zbc1, zbc2, zbf0, zbf1, zbf2, zbl⟩ := zb.cells
  obtain ⟨zcc0, zcc1, zcc2, zcf0, zcf1, zcf2, zcl⟩ := zc.cells
  go_wp2_with fail
  have ix0 := idx0 na A1 n1 c1 ea nb A2 n2 c2 eb nc A3 n3 c3 ec
  have ix1 := idx1 na A1 n1 c1 ea nb A2 n2 c2 eb nc A3 n3 c3 ec
  have ix2 := idx2 na A1 n1 c1 ea nb A2 n2 c2 eb nc A3 n3 c3 ec
  refine wp_loop_rounds 4 ?_
  rw [rounds_succ]
  go_wp2_with fail
  clear zac0 zac1 zac2 zaf0 zaf1 zaf2 zal zbc0 zbc1 zbc2 zbf0 zbf1 zbf2 zbl zcc0 zcc1 zcc2 zcf0 zcf1 zcf2 zcl
  obtain ⟨w2, e_w2⟩ : ∃ w', w1.alloc (dob na A1 n1 c1 ea 25) = w' := ⟨_, rfl⟩
  have b : Below w1.heap.size w1 w2 := e_w2 ▸ below_lit _ _
  have hs_w2 : w2.heap.size = w1.heap.size + 1 := e_w2 ▸ size_lit w1 _ rfl
  have y0 : DB w2 w1.heap.size 25 na A1 n1 c1 ea := e_w2 ▸ DB.made w1 rfl 25 na A1 n1 c1 ea
  rw [e_w2]
  clear e_w2
  replace za := za.on b
  replace zb := zb.on b
  replace zc := zc.on b
  replace hT := hT.on b
  replace h1 := h1.on b
  replace h2 := h2.on b
  replace h3 := h3.on b
  replace BW := Below.step BW b
  clear b
  clear y0
  rw [rounds_succ]
  go_wp2_with fail
  obtain ⟨w3, e_w3⟩ : ∃ w', w2.alloc (dob nb A2 n2 c2 eb 25) = w' := ⟨_, rfl⟩
  have b : Below w2.heap.size w2 w3 := e_w3 ▸ below_lit _ _
  have hs_w3 : w3.heap.size = w2.heap.size + 1 := e_w3 ▸ size_lit w2 _ rfl
  have y1 : DB w3 w2.heap.size 25 nb A2 n2 c2 eb := e_w3 ▸ DB.made w2 rfl 25 nb A2 n2 c2 eb
  rw [e_w3]
  clear e_w3
  replace za := za.on b
  replace zb := zb.on b
  replace zc := zc.on b
  replace hT := hT.on b
  replace h1 := h1.on b
  replace h2 := h2.on b
  replace h3 := h3.on b
  replace BW := Below.step BW b
  clear b
  clear y1
  rw [rounds_succ]
  go_wp2_with fail
  obtain ⟨w4, e_w4⟩ : ∃ w', w3.alloc (dob nc A3 n3 c3 ec 25) = w' := ⟨_, rfl⟩
  have b : Below w3.heap.size w3 w4 := e_w4 ▸ below_lit _ _
  have hs_w4 : w4.heap.size = w3.heap.size + 1 := e_w4 ▸ size_lit w3 _ rfl
  have y2 : DB w4 w3.heap.size 25 nc A3 n3 c3 ec := e_w4 ▸ DB.made w3 rfl 25 nc A3 n3 c3 ec
  rw [e_w4]
  clear e_w4
  replace za := za.on b
  replace zb := zb.on b
  replace zc := zc.on b
  replace hT := hT.on b
  replace h1 := h1.on b
  replace h2 := h2.on b
  replace h3 := h3.on b
  replace BW := Below.step BW b
  clear b
  clear y2
  clear ix0 ix1 ix2
  rw [rounds_succ]
  obtain ⟨zac0, zac1, zac2, zaf0, zaf1, zaf2, zal⟩ := za.cells
  obtain ⟨zbc0, zbc1, zbc2, zbf0, zbf1, zbf2, zbl⟩ := zb.cells
  go_wp2_with fail
  refine (dadd_as h1 h2 (by omega) (by omega) hT es.out).mono ?_
  rintro en w5 ⟨V_Rs, v_Rs, rfl, Rs, b⟩
  clear zac0 zac1 zac2 zaf0 zaf1 zaf2 zal zbc0 zbc1 zbc2 zbf0 zbf1 zbf2 zbl
  replace za := za.on b
  replace zb := zb.on b
  replace zc := zc.on b
  replace hT := hT.on b
  replace h1 := h1.on b
  replace h2 := h2.on b
  replace h3 := h3.on b
  replace BW := Below.step BW b
  clear b
  have l_Rs := res_n_le Rs (k := 128) (may_blen ms.out)
  obtain ⟨zbc0, zbc1, zbc2, zbf0, zbf1, zbf2, zbl⟩ := zb.cells
  obtain ⟨zac0, zac1, zac2, zaf0, zaf1, zaf2, zal⟩ := za.cells
  go_wp2_with fail
  clear zbc0 zbc1 zbc2 zbf0 zbf1 zbf2 zbl zac0 zac1 zac2 zaf0 zaf1 zaf2 zal
  obtain ⟨w6, e_w6⟩ : ∃ w', w5.alloc (dob sn V_Rs v_Rs v_Rs se 25) = w' := ⟨_, rfl⟩
  have b : Below w5.heap.size w5 w6 := e_w6 ▸ below_lit _ _
  have hs_w6 : w6.heap.size = w5.heap.size + 1 := e_w6 ▸ size_lit w5 _ rfl
  have zs : DB w6 w5.heap.size 25 sn V_Rs v_Rs v_Rs se := e_w6 ▸ DB.made w5 rfl 25 sn V_Rs v_Rs v_Rs se
  rw [e_w6]
  clear e_w6
  replace za := za.on b
  replace zb := zb.on b
  replace zc := zc.on b
  replace hT := hT.on b
  replace h1 := h1.on b
  replace h2 := h2.on b
  replace h3 := h3.on b
  replace Rs := Rs.on b
  replace BW := Below.step BW b
  clear b
  refine (dadd_as h2 h1 (by omega) (by omega) hT et.out).mono ?_
  rintro en w7 ⟨V_Rt, v_Rt, rfl, Rt, b⟩
  replace za := za.on b
  replace zb := zb.on b
  replace zc := zc.on b
  replace hT := hT.on b
  replace h1 := h1.on b
  replace h2 := h2.on b
  replace h3 := h3.on b
  replace Rs := Rs.on b
  replace zs := zs.on b
  replace BW := Below.step BW b
  clear b
  have l_Rt := res_n_le Rt (k := 128) (may_blen ms.out)
  obtain ⟨zsc0, zsc1, zsc2, zsf0, zsf1, zsf2, zsl⟩ := zs.cells
  obtain ⟨zbc0, zbc1, zbc2, zbf0, zbf1, zbf2, zbl⟩ := zb.cells
  go_wp2_with fail
  clear zsc0 zsc1 zsc2 zsf0 zsf1 zsf2 zsl zbc0 zbc1 zbc2 zbf0 zbf1 zbf2 zbl
  obtain ⟨w8, e_w8⟩ : ∃ w', w7.alloc (dob sn V_Rt v_Rt v_Rt se 25) = w' := ⟨_, rfl⟩
  have b : Below w7.heap.size w7 w8 := e_w8 ▸ below_lit _ _
  have hs_w8 : w8.heap.size = w7.heap.size + 1 := e_w8 ▸ size_lit w7 _ rfl
  have zt : DB w8 w7.heap.size 25 sn V_Rt v_Rt v_Rt se := e_w8 ▸ DB.made w7 rfl 25 sn V_Rt v_Rt v_Rt se
  rw [e_w8]
  clear e_w8
  replace za := za.on b
  replace zb := zb.on b
  replace zc := zc.on b
  replace hT := hT.on b
  replace h1 := h1.on b
  replace h2 := h2.on b
  replace h3 := h3.on b
  replace Rs := Rs.on b
  replace zs := zs.on b
  replace Rt := Rt.on b
  replace BW := Below.step BW b
  clear b
  refine (dsub_as (Rs.arg (by omega)) h2 (by omega) (by omega) hT ed.out).mono ?_
  rintro en w9 ⟨V_Rd, v_Rd, rfl, Rd, b⟩
  replace za := za.on b
  replace zb := zb.on b
  replace zc := zc.on b
  replace hT := hT.on b
  replace h1 := h1.on b
  replace h2 := h2.on b
  replace h3 := h3.on b
  replace Rs := Rs.on b
  replace zs := zs.on b
  replace Rt := Rt.on b
  replace zt := zt.on b
  replace BW := Below.step BW b
  clear b
  have l_Rd := res_n_le Rd (k := 128) (may_blen md.out)
  obtain ⟨zsc0, zsc1, zsc2, zsf0, zsf1, zsf2, zsl⟩ := zs.cells
  obtain ⟨zcc0, zcc1, zcc2, zcf0, zcf1, zcf2, zcl⟩ := zc.cells
  go_wp2_with fail
  clear zsc0 zsc1 zsc2 zsf0 zsf1 zsf2 zsl zcc0 zcc1 zcc2 zcf0 zcf1 zcf2 zcl
  obtain ⟨w10, e_w10⟩ : ∃ w', w9.alloc (dob dn V_Rd v_Rd v_Rd de 25) = w' := ⟨_, rfl⟩
  have b : Below w9.heap.size w9 w10 := e_w10 ▸ below_lit _ _
  have hs_w10 : w10.heap.size = w9.heap.size + 1 := e_w10 ▸ size_lit w9 _ rfl
  have zd : DB w10 w9.heap.size 25 dn V_Rd v_Rd v_Rd de := e_w10 ▸ DB.made w9 rfl 25 dn V_Rd v_Rd v_Rd de
  rw [e_w10]
  clear e_w10
  replace za := za.on b
  replace zb := zb.on b
  replace zc := zc.on b
  replace hT := hT.on b
  replace h1 := h1.on b
  replace h2 := h2.on b
  replace h3 := h3.on b
  replace Rs := Rs.on b
  replace zs := zs.on b
  replace Rt := Rt.on b
  replace zt := zt.on b
  replace Rd := Rd.on b
  replace BW := Below.step BW b
  clear b
  refine (dmul_as (Rs.arg (by omega)) h3 (by omega) (by omega) hT ep.out).mono ?_
  rintro en w11 ⟨V_Rp, v_Rp, rfl, Rp, b⟩
  replace za := za.on b
  replace zb := zb.on b
  replace zc := zc.on b
  replace hT := hT.on b
  replace h1 := h1.on b
  replace h2 := h2.on b
  replace h3 := h3.on b
  replace Rs := Rs.on b
  replace zs := zs.on b
  replace Rt := Rt.on b
  replace zt := zt.on b
  replace Rd := Rd.on b
  replace zd := zd.on b
  replace BW := Below.step BW b
  clear b
  have l_Rp := res_n_le Rp (k := 128) (may_blen mp.out)
  obtain ⟨zac0, zac1, zac2, zaf0, zaf1, zaf2, zal⟩ := za.cells
  obtain ⟨zcc0, zcc1, zcc2, zcf0, zcf1, zcf2, zcl⟩ := zc.cells
  go_wp2_with fail
  clear zac0 zac1 zac2 zaf0 zaf1 zaf2 zal zcc0 zcc1 zcc2 zcf0 zcf1 zcf2 zcl
  obtain ⟨w12, e_w12⟩ : ∃ w', w11.alloc (dob pn V_Rp v_Rp v_Rp pe 25) = w' := ⟨_, rfl⟩
  have b : Below w11.heap.size w11 w12 := e_w12 ▸ below_lit _ _
  have hs_w12 : w12.heap.size = w11.heap.size + 1 := e_w12 ▸ size_lit w11 _ rfl
  have zp : DB w12 w11.heap.size 25 pn V_Rp v_Rp v_Rp pe := e_w12 ▸ DB.made w11 rfl 25 pn V_Rp v_Rp v_Rp pe
  rw [e_w12]
  clear e_w12
  replace za := za.on b
  replace zb := zb.on b
  replace zc := zc.on b
  replace hT := hT.on b
  replace h1 := h1.on b
  replace h2 := h2.on b
  replace h3 := h3.on b
  replace Rs := Rs.on b
  replace zs := zs.on b
  replace Rt := Rt.on b
  replace zt := zt.on b
  replace Rd := Rd.on b
  replace zd := zd.on b
  replace Rp := Rp.on b
  replace BW := Below.step BW b
  clear b
  refine (dmul_as h1 h3 (by omega) (by omega) hT eq.out).mono ?_
  rintro en w13 ⟨V_Rq, v_Rq, rfl, Rq, b⟩
  replace za := za.on b
  replace zb := zb.on b
  replace zc := zc.on b
  replace hT := hT.on b
  replace h1 := h1.on b
  replace h2 := h2.on b
  replace h3 := h3.on b
  replace Rs := Rs.on b
  replace zs := zs.on b
  replace Rt := Rt.on b
  replace zt := zt.on b
  replace Rd := Rd.on b
  replace zd := zd.on b
  replace Rp := Rp.on b
  replace zp := zp.on b
  replace BW := Below.step BW b
  clear b
  have l_Rq := res_n_le Rq (k := 128) (may_blen mq.out)
  obtain ⟨zbc0, zbc1, zbc2, zbf0, zbf1, zbf2, zbl⟩ := zb.cells
  obtain ⟨zcc0, zcc1, zcc2, zcf0, zcf1, zcf2, zcl⟩ := zc.cells
  go_wp2_with fail
  clear zbc0 zbc1 zbc2 zbf0 zbf1 zbf2 zbl zcc0 zcc1 zcc2 zcf0 zcf1 zcf2 zcl
  obtain ⟨w14, e_w14⟩ : ∃ w', w13.alloc (dob qn V_Rq v_Rq v_Rq qe 25) = w' := ⟨_, rfl⟩
  have b : Below w13.heap.size w13 w14 := e_w14 ▸ below_lit _ _
  have hs_w14 : w14.heap.size = w13.heap.size + 1 := e_w14 ▸ size_lit w13 _ rfl
  have zq : DB w14 w13.heap.size 25 qn V_Rq v_Rq v_Rq qe := e_w14 ▸ DB.made w13 rfl 25 qn V_Rq v_Rq v_Rq qe
  rw [e_w14]
  clear e_w14
  replace za := za.on b
  replace zb := zb.on b
  replace zc := zc.on b
  replace hT := hT.on b
  replace h1 := h1.on b
  replace h2 := h2.on b
  replace h3 := h3.on b
  replace Rs := Rs.on b
  replace zs := zs.on b
  replace Rt := Rt.on b
  replace zt := zt.on b
  replace Rd := Rd.on b
  replace zd := zd.on b
  replace Rp := Rp.on b
  replace zp := zp.on b
  replace Rq := Rq.on b
  replace BW := Below.step BW b
  clear b
  refine (dmul_as h2 h3 (by omega) (by omega) hT er.out).mono ?_
  rintro en w15 ⟨V_Rr, v_Rr, rfl, Rr, b⟩
  replace za := za.on b
  replace zb := zb.on b
  replace zc := zc.on b
  replace hT := hT.on b
  replace h1 := h1.on b
  replace h2 := h2.on b
  replace h3 := h3.on b
  replace Rs := Rs.on b
  replace zs := zs.on b
  replace Rt := Rt.on b
  replace zt := zt.on b
  replace Rd := Rd.on b
  replace zd := zd.on b
  replace Rp := Rp.on b
  replace zp := zp.on b
  replace Rq := Rq.on b
  replace zq := zq.on b
  replace BW := Below.step BW b
  clear b
  have l_Rr := res_n_le Rr (k := 128) (may_blen mr.out)
  obtain ⟨zqc0, zqc1, zqc2, zqf0, zqf1, zqf2, zql⟩ := zq.cells
  go_wp2_with fail
  clear zqc0 zqc1 zqc2 zqf0 zqf1 zqf2 zql
  obtain ⟨w16, e_w16⟩ : ∃ w', w15.alloc (dob rn V_Rr v_Rr v_Rr re 25) = w' := ⟨_, rfl⟩
  have b : Below w15.heap.size w15 w16 := e_w16 ▸ below_lit _ _
  have hs_w16 : w16.heap.size = w15.heap.size + 1 := e_w16 ▸ size_lit w15 _ rfl
  have zr : DB w16 w15.heap.size 25 rn V_Rr v_Rr v_Rr re := e_w16 ▸ DB.made w15 rfl 25 rn V_Rr v_Rr v_Rr re
  rw [e_w16]
  clear e_w16
  replace za := za.on b
  replace zb := zb.on b
  replace zc := zc.on b
  replace hT := hT.on b
  replace h1 := h1.on b
  replace h2 := h2.on b
  replace h3 := h3.on b
  replace Rs := Rs.on b
  replace zs := zs.on b
  replace Rt := Rt.on b
  replace zt := zt.on b
  replace Rd := Rd.on b
  replace zd := zd.on b
  replace Rp := Rp.on b
  replace zp := zp.on b
  replace Rq := Rq.on b
  replace zq := zq.on b
  replace Rr := Rr.on b
  replace BW := Below.step BW b
  clear b
  refine (dadd_as (Rq.arg (by omega)) (Rr.arg (by omega)) (by omega) (by omega) hT eu.out).mono ?_
  rintro en w17 ⟨V_Ru, v_Ru, rfl, Ru, b⟩
  replace za := za.on b
  replace zb := zb.on b
  replace zc := zc.on b
  replace hT := hT.on b
  replace h1 := h1.on b
  replace h2 := h2.on b
  replace h3 := h3.on b
  replace Rs := Rs.on b
  replace zs := zs.on b
  replace Rt := Rt.on b
  replace zt := zt.on b
  replace Rd := Rd.on b
  replace zd := zd.on b
  replace Rp := Rp.on b
  replace zp := zp.on b
  replace Rq := Rq.on b
  replace zq := zq.on b
  replace Rr := Rr.on b
  replace zr := zr.on b
  replace BW := Below.step BW b
  clear b
  have l_Ru := res_n_le Ru (k := 128) (may_blen mp.out)
  obtain ⟨zcc0, zcc1, zcc2, zcf0, zcf1, zcf2, zcl⟩ := zc.cells
  obtain ⟨zac0, zac1, zac2, zaf0, zaf1, zaf2, zal⟩ := za.cells
  go_wp2_with fail
  clear zcc0 zcc1 zcc2 zcf0 zcf1 zcf2 zcl zac0 zac1 zac2 zaf0 zaf1 zaf2 zal
  obtain ⟨w18, e_w18⟩ : ∃ w', w17.alloc (dob pn V_Ru v_Ru v_Ru pe 25) = w' := ⟨_, rfl⟩
  have b : Below w17.heap.size w17 w18 := e_w18 ▸ below_lit _ _
  have hs_w18 : w18.heap.size = w17.heap.size + 1 := e_w18 ▸ size_lit w17 _ rfl
  have zu : DB w18 w17.heap.size 25 pn V_Ru v_Ru v_Ru pe := e_w18 ▸ DB.made w17 rfl 25 pn V_Ru v_Ru v_Ru pe
  rw [e_w18]
  clear e_w18
  replace za := za.on b
  replace zb := zb.on b
  replace zc := zc.on b
  replace hT := hT.on b
  replace h1 := h1.on b
  replace h2 := h2.on b
  replace h3 := h3.on b
  replace Rs := Rs.on b
  replace zs := zs.on b
  replace Rt := Rt.on b
  replace zt := zt.on b
  replace Rd := Rd.on b
  replace zd := zd.on b
  replace Rp := Rp.on b
  replace zp := zp.on b
  replace Rq := Rq.on b
  replace zq := zq.on b
  replace Rr := Rr.on b
  replace zr := zr.on b
  replace Ru := Ru.on b
  replace BW := Below.step BW b
  clear b
  refine (dmul_as h3 h1 (by omega) (by omega) hT ev.out).mono ?_
  rintro en w19 ⟨V_Rv, v_Rv, rfl, Rv, b⟩
  replace za := za.on b
  replace zb := zb.on b
  replace zc := zc.on b
  replace hT := hT.on b
  replace h1 := h1.on b
  replace h2 := h2.on b
  replace h3 := h3.on b
  replace Rs := Rs.on b
  replace zs := zs.on b
  replace Rt := Rt.on b
  replace zt := zt.on b
  replace Rd := Rd.on b
  replace zd := zd.on b
  replace Rp := Rp.on b
  replace zp := zp.on b
  replace Rq := Rq.on b
  replace zq := zq.on b
  replace Rr := Rr.on b
  replace zr := zr.on b
  replace Ru := Ru.on b
  replace zu := zu.on b
  replace BW := Below.step BW b
  clear b
  have l_Rv := res_n_le Rv (k := 128) (may_blen mq.out)
  go_wp2_with fail
  obtain ⟨w20, e_w20⟩ : ∃ w', w19.alloc (dob qn V_Rv v_Rv v_Rv qe 25) = w' := ⟨_, rfl⟩
  have b : Below w19.heap.size w19 w20 := e_w20 ▸ below_lit _ _
  have hs_w20 : w20.heap.size = w19.heap.size + 1 := e_w20 ▸ size_lit w19 _ rfl
  have zv : DB w20 w19.heap.size 25 qn V_Rv v_Rv v_Rv qe := e_w20 ▸ DB.made w19 rfl 25 qn V_Rv v_Rv v_Rv qe
  rw [e_w20]
  clear e_w20
  replace za := za.on b
  replace zb := zb.on b
  replace zc := zc.on b
  replace hT := hT.on b
  replace h1 := h1.on b
  replace h2 := h2.on b
  replace h3 := h3.on b
  replace Rs := Rs.on b
  replace zs := zs.on b
  replace Rt := Rt.on b
  replace zt := zt.on b
  replace Rd := Rd.on b
  replace zd := zd.on b
  replace Rp := Rp.on b
  replace zp := zp.on b
  replace Rq := Rq.on b
  replace zq := zq.on b
  replace Rr := Rr.on b
  replace zr := zr.on b
  replace Ru := Ru.on b
  replace zu := zu.on b
  replace Rv := Rv.on b
  replace BW := Below.step BW b
  clear b
  have jx0 := jdx0
  have jx1 := jdx1
  have jx2 := jdx2
  have jx3 := jdx3
  have jx4 := jdx4
  have jx5 := jdx5
  have jx6 := jdx6
  have jx7 := jdx7
  refine wp_loop_rounds 9 ?_
  rw [rounds_succ]
  go_wp2_with fail
  rw [rounds_succ]
  go_wp2_with fail
  rw [rounds_succ]
  go_wp2_with fail
  rw [rounds_succ]
  go_wp2_with fail
  rw [rounds_succ]
  go_wp2_with fail
  rw [rounds_succ]
  go_wp2_with fail
  rw [rounds_succ]
  go_wp2_with fail
  rw [rounds_succ]
  go_wp2_with fail
  clear jx0 jx1 jx2 jx3 jx4 jx5 jx6 jx7
  rw [rounds_succ]
  obtain ⟨zsc0, zsc1, zsc2, zsf0, zsf1, zsf2, zsl⟩ := zs.cells
  obtain ⟨ztc0, ztc1, ztc2, ztf0, ztf1, ztf2, ztl⟩ := zt.cells
  go_wp2_with fail
  refine (dsame_eq (Rs.arg (by omega)) (Rt.arg (by omega)) (by omega) (by omega) hT ms.out rfl).mono ?_
  rintro en w21 ⟨rfl, b⟩
  clear zsc0 zsc1 zsc2 zsf0 zsf1 zsf2 zsl ztc0 ztc1 ztc2 ztf0 ztf1 ztf2 ztl
  replace za := za.on b
  replace zb := zb.on b
  replace zc := zc.on b
  replace hT := hT.on b
  replace h1 := h1.on b
  replace h2 := h2.on b
  replace h3 := h3.on b
  replace Rs := Rs.on b
  replace zs := zs.on b
  replace Rt := Rt.on b
  replace zt := zt.on b
  replace Rd := Rd.on b
  replace zd := zd.on b
  replace Rp := Rp.on b
  replace zp := zp.on b
  replace Rq := Rq.on b
  replace zq := zq.on b
  replace Rr := Rr.on b
  replace zr := zr.on b
  replace Ru := Ru.on b
  replace zu := zu.on b
  replace Rv := Rv.on b
  replace zv := zv.on b
  replace BW := Below.step BW b
  clear b
  obtain ⟨zdc0, zdc1, zdc2, zdf0, zdf1, zdf2, zdl⟩ := zd.cells
  obtain ⟨zac0, zac1, zac2, zaf0, zaf1, zaf2, zal⟩ := za.cells
  go_wp2_with fail
  refine (dsame_vl (Rd.arg (by omega)) h1 (by omega) (by omega) hT md.out ma.out true (decide_eq_true vd.out)).mono ?_
  rintro en w22 ⟨rfl, b⟩
  clear zdc0 zdc1 zdc2 zdf0 zdf1 zdf2 zdl zac0 zac1 zac2 zaf0 zaf1 zaf2 zal
  replace za := za.on b
  replace zb := zb.on b
  replace zc := zc.on b
  replace hT := hT.on b
  replace h1 := h1.on b
  replace h2 := h2.on b
  replace h3 := h3.on b
  replace Rs := Rs.on b
  replace zs := zs.on b
  replace Rt := Rt.on b
  replace zt := zt.on b
  replace Rd := Rd.on b
  replace zd := zd.on b
  replace Rp := Rp.on b
  replace zp := zp.on b
  replace Rq := Rq.on b
  replace zq := zq.on b
  replace Rr := Rr.on b
  replace zr := zr.on b
  replace Ru := Ru.on b
  replace zu := zu.on b
  replace Rv := Rv.on b
  replace zv := zv.on b
  replace BW := Below.step BW b
  clear b
  obtain ⟨zpc0, zpc1, zpc2, zpf0, zpf1, zpf2, zpl⟩ := zp.cells
  obtain ⟨zuc0, zuc1, zuc2, zuf0, zuf1, zuf2, zul⟩ := zu.cells
  go_wp2_with fail
  refine (dsame_eq (Rp.arg (by omega)) (Ru.arg (by omega)) (by omega) (by omega) hT mp.out rfl).mono ?_
  rintro en w23 ⟨rfl, b⟩
  clear zpc0 zpc1 zpc2 zpf0 zpf1 zpf2 zpl zuc0 zuc1 zuc2 zuf0 zuf1 zuf2 zul
  replace za := za.on b
  replace zb := zb.on b
  replace zc := zc.on b
  replace hT := hT.on b
  replace h1 := h1.on b
  replace h2 := h2.on b
  replace h3 := h3.on b
  replace Rs := Rs.on b
  replace zs := zs.on b
  replace Rt := Rt.on b
  replace zt := zt.on b
  replace Rd := Rd.on b
  replace zd := zd.on b
  replace Rp := Rp.on b
  replace zp := zp.on b
  replace Rq := Rq.on b
  replace zq := zq.on b
  replace Rr := Rr.on b
  replace zr := zr.on b
  replace Ru := Ru.on b
  replace zu := zu.on b
  replace Rv := Rv.on b
  replace zv := zv.on b
  replace BW := Below.step BW b
  clear b
  obtain ⟨zqc0, zqc1, zqc2, zqf0, zqf1, zqf2, zql⟩ := zq.cells
  obtain ⟨zvc0, zvc1, zvc2, zvf0, zvf1, zvf2, zvl⟩ := zv.cells
  go_wp2_with fail
  refine (dsame_eq (Rq.arg (by omega)) (Rv.arg (by omega)) (by omega) (by omega) hT mq.out rfl).mono ?_
  rintro en w24 ⟨rfl, b⟩
  clear zqc0 zqc1 zqc2 zqf0 zqf1 zqf2 zql zvc0 zvc1 zvc2 zvf0 zvf1 zvf2 zvl
  replace za := za.on b
  replace zb := zb.on b
  replace zc := zc.on b
  replace hT := hT.on b
  replace h1 := h1.on b
  replace h2 := h2.on b
  replace h3 := h3.on b
  replace Rs := Rs.on b
  replace zs := zs.on b
  replace Rt := Rt.on b
  replace zt := zt.on b
  replace Rd := Rd.on b
  replace zd := zd.on b
  replace Rp := Rp.on b
  replace zp := zp.on b
  replace Rq := Rq.on b
  replace zq := zq.on b
  replace Rr := Rr.on b
  replace zr := zr.on b
  replace Ru := Ru.on b
  replace zu := zu.on b
  replace Rv := Rv.on b
  replace zv := zv.on b
  replace BW := Below.step BW b
  clear b
  go_wp2_with fail
  go_ret
  exact ⟨rfl, BW⟩
end Go.Proofs.YthaehfdjldjdiaaDoor
