
/-
  The walk of the law DyadSums.
-/
import Derived.Test.YthaehfdjldjdiaaDoorRd
import Derived.Test.YthaehfdjldjdiaaDoorDj
import Derived.Deep.DeepCutAuto
namespace Go.Proofs.YthaehfdjldjdiaaDoor
open Go.RowKit
set_option linter.unusedVariables false

def CutR (w0 : World) (rn : Bool) (rx : Nat) (re err : Int) (s7 s8 : Value) (wx : World) : Prop :=
  ∃ g A n c, s7 = .pointer (some ⟨g, 0, none⟩) ∧ s8 = .int .i64 err ∧ DB wx g 34 rn A n c re ∧ BR wx A n c rx ∧ Below w0.heap.size w0 wx
theorem DB.made_drew (w : World) {s : Nat} (hs : w.heap.size = s) (t : TypeId) (neg : Bool) (A : Option Addr) (n c : Nat) (e : Int) : DB (w.alloc (dob neg A n c e t)).drew s t neg A n c e := (DB.made w hs t neg A n c e).on ((Below.refl _ _).drew)
theorem below_more {w0 w : World} (h : Below w0.heap.size w0 w) (o : Obj) : Below w0.heap.size w0 (w.alloc o) := h.alloc h.size o

set_option maxHeartbeats 4000000 in
set_option maxRecDepth 100000 in
theorem sums_main {A1 A2 : Option Addr} {n1 c1 n2 c2 x y : Nat} {na nb : Bool} {ea eb : Int} {w : World} (h1 : Arg w A1 n1 c1 x) (h2 : Arg w A2 n2 c2 y) (hT : Tab w) (s1 : n1 ≤ 140) (s2 : n2 ≤ 140)
    {xn un : Bool} {xx ux : Nat} {xe xerr ue uerr q qerr : Int} (es : Hid (addS ⟨na, x, ea⟩ ⟨nb, y, eb⟩ = (⟨xn, xx, xe⟩, xerr))) (mx : Hid (blen xx ≤ 32 * 128)) (eu : Hid (addS ⟨na, x, ea⟩ ⟨!nb, y, eb⟩ = (⟨un, ux, ue⟩, uerr))) (mu : Hid (blen ux ≤ 32 * 128)) (eq : Hid (cmpS ⟨na, x, ea⟩ ⟨nb, y, eb⟩ = (q, qerr))) (hb1 : blen x ≤ 100000) (hb2 : blen y ≤ 100000) :
    Calls Tryd.prog 3 #[.agg #[.bool na, .slice A1 n1 c1, .int .i64 ea], .agg #[.bool nb, .slice A2 n2 c2, .int .i64 eb]] w fun e w' => e = .returned (.bool true) ∧ Below w.heap.size w w' := by
  go_enter Tryd.func3, Tryd.ntmps3
  go_wp2_with fail
  obtain ⟨W, hW, za, zb, BW, sW⟩ := frame2 w 25 25 na A1 n1 c1 ea nb A2 n2 c2 eb
  rw [hW]
  clear hW
  replace hT := hT.on BW
  replace h1 := h1.on BW
  replace h2 := h2.on BW
  refine (awake2_any hT).mono ?_
  rintro en w1 ⟨rfl, b⟩
  replace za := za.on b
  replace zb := zb.on b
  replace hT := hT.on b
  replace h1 := h1.on b
  replace h2 := h2.on b
  replace BW := Below.step BW b
  clear b
  obtain ⟨zac0, zac1, zac2, zaf0, zaf1, zaf2, zal⟩ := za.cells
  go_wp2_with fail
  refine (large_any false (by omega) (decide_eq_false (by omega))).mono ?_
  rintro en w2 ⟨rfl, b⟩
  clear zac0 zac1 zac2 zaf0 zaf1 zaf2 zal
  replace za := za.on b
  replace zb := zb.on b
  replace hT := hT.on b
  replace h1 := h1.on b
  replace h2 := h2.on b
  replace BW := Below.step BW b
  clear b
  obtain ⟨zbc0, zbc1, zbc2, zbf0, zbf1, zbf2, zbl⟩ := zb.cells
  go_wp2_with fail
  refine (large_any false (by omega) (decide_eq_false (by omega))).mono ?_
  rintro en w3 ⟨rfl, b⟩
  clear zbc0 zbc1 zbc2 zbf0 zbf1 zbf2 zbl
  replace za := za.on b
  replace zb := zb.on b
  replace hT := hT.on b
  replace h1 := h1.on b
  replace h2 := h2.on b
  replace BW := Below.step BW b
  clear b
  obtain ⟨zac0, zac1, zac2, zaf0, zaf1, zaf2, zal⟩ := za.cells
  obtain ⟨zbc0, zbc1, zbc2, zbf0, zbf1, zbf2, zbl⟩ := zb.cells
  go_wp2_with fail
  refine (dadd_as h1 h2 (by omega) (by omega) hT es.out).mono ?_
  rintro en w4 ⟨V_Rx, v_Rx, rfl, Rx, b⟩
  clear zac0 zac1 zac2 zaf0 zaf1 zaf2 zal zbc0 zbc1 zbc2 zbf0 zbf1 zbf2 zbl
  replace za := za.on b
  replace zb := zb.on b
  replace hT := hT.on b
  replace h1 := h1.on b
  replace h2 := h2.on b
  replace BW := Below.step BW b
  clear b
  have l_Rx := res_n_le Rx (k := 128) mx.out
  go_upto_region 6 with fail
  obtain ⟨w5, e_w5⟩ : ∃ w', w4.alloc (dob xn V_Rx v_Rx v_Rx xe 25) = w' := ⟨_, rfl⟩
  have b : Below w4.heap.size w4 w5 := e_w5 ▸ below_lit _ _
  have hs_w5 : w5.heap.size = w4.heap.size + 1 := e_w5 ▸ size_lit w4 _ rfl
  have zx : DB w5 w4.heap.size 25 xn V_Rx v_Rx v_Rx xe := e_w5 ▸ DB.made w4 rfl 25 xn V_Rx v_Rx v_Rx xe
  rw [e_w5]
  clear e_w5
  replace za := za.on b
  replace zb := zb.on b
  replace hT := hT.on b
  replace h1 := h1.on b
  replace h2 := h2.on b
  replace Rx := Rx.on b
  replace BW := Below.step BW b
  clear b
  clear hs_w5
  go_cut [7, 8] (CutR w5 xn xx xe xerr)
  case first =>
    have HS : Hid (∀ w', Below w5.heap.size w5 w' → w'.cell? ⟨w.heap.size, 0, none⟩ = some (.bool na) ∧ w'.cell? ⟨w.heap.size, 1, none⟩ = some (.slice A1 n1 c1) ∧ w'.cell? ⟨w.heap.size, 2, none⟩ = some (.int .i64 ea) ∧ w'.cell? ⟨w.heap.size + 1, 0, none⟩ = some (.bool nb) ∧ w'.cell? ⟨w.heap.size + 1, 1, none⟩ = some (.slice A2 n2 c2) ∧ w'.cell? ⟨w.heap.size + 1, 2, none⟩ = some (.int .i64 eb)) := fun w' hb => by
      obtain ⟨p0, p1, p2, _⟩ := (za.on hb).cells
      obtain ⟨q0, q1, q2, _⟩ := (zb.on hb).cells
      exact ⟨p0, p1, p2, q0, q1, q2⟩
    have kk : Below w5.heap.size w5 w5.drew := (Below.refl _ _).drew
    have kd : Below w5.heap.size w5 (w5.alloc (dob false none 0 0 0 34)).drew := (below_more (Below.refl _ _) _).drew
    have H1 := Lib.hid h1
    have H2 := Lib.hid h2
    clear za zb hT h1 h2 Rx zx
    go_region_held3 (fun w' => w'.cell? ⟨w.heap.size, 0, none⟩ = some (.bool na) ∧ w'.cell? ⟨w.heap.size, 1, none⟩ = some (.slice A1 n1 c1) ∧ w'.cell? ⟨w.heap.size, 2, none⟩ = some (.int .i64 ea) ∧ w'.cell? ⟨w.heap.size + 1, 0, none⟩ = some (.bool nb) ∧ w'.cell? ⟨w.heap.size + 1, 1, none⟩ = some (.slice A2 n2 c2) ∧ w'.cell? ⟨w.heap.size + 1, 2, none⟩ = some (.int .i64 eb))
      ((refine HS.out _ ?_; first | (with_reducible assumption) | (with_reducible exact below_more (by assumption) _) | ((with_reducible refine below_put3 ?_ ?_ _ _ _) <;> first | (with_reducible assumption) | omega)))
      (first
      | (go_at_call_of 12 (Value.agg #[.bool na, .slice A1 n1 c1, .int .i64 ea])
         refine (own_any (H1.out.on (by first | (with_reducible assumption) | (with_reducible exact below_more (by assumption) _))) (by omega)).mono ?_
         rintro e v6 ⟨B1, m1, d1, rfl, r1, b6⟩
         have kk := Below.step (show Below w5.heap.size w5 _ from (by first | (with_reducible assumption) | (with_reducible exact below_more (by assumption) _))) b6
         have hz6 := kk.size
         have r1 := Lib.hid r1
         have b6 := Lib.hid b6)
      | (go_at_call_of 12 (Value.agg #[.bool nb, .slice A2 n2 c2, .int .i64 eb])
         refine (own_any (H2.out.on (by first | (with_reducible assumption) | (with_reducible exact below_more (by assumption) _))) (by omega)).mono ?_
         rintro e v7 ⟨B2, m2, d2, rfl, r2, b7⟩
         have kk := Below.step (show Below w5.heap.size w5 _ from (by first | (with_reducible assumption) | (with_reducible exact below_more (by assumption) _))) b7
         have hz7 := kk.size
         have r1 := Lib.hid (r1.out.on (show Below v6.heap.size v6 v7 by first | (with_reducible exact b7) | (with_reducible exact Below.step (below_lit _ _) b7)))
         have r2 := Lib.hid r2
         have b7 := Lib.hid b7)
      | (go_at_call 11
         refine (rAdd_as (r1.out.on (by first | (with_reducible exact Below.refl _ _) | (with_reducible exact below_lit _ _))) (r2.out.on (by first | (with_reducible exact Below.refl _ _) | (with_reducible exact below_lit _ _))) (by rw [r1.out.size]; exact hb1) (by rw [r2.out.size]; exact hb2) es).mono ?_
         rintro e v8 ⟨B3, m3, d3, rfl, r3, b8⟩
         have kk := Below.step (show Below w5.heap.size w5 _ from (by first | (with_reducible assumption) | (with_reducible exact below_more (by assumption) _))) b8
         have hz8 := kk.size
         have r3 := Lib.hid r3
         first | (have zz := (((DB.made_drew w5 rfl 34 false none 0 0 0).on b6.out).on b7.out).on b8; obtain ⟨p0, p1, p2, g0, g1, g2, _⟩ := zz.cells; have zz := Lib.hid zz) | (have zz := ((DB.made v6 rfl 34 false none 0 0 0).on b7.out).on b8; obtain ⟨p0, p1, p2, g0, g1, g2, _⟩ := zz.cells; have zz := Lib.hid zz) | (have zz := (DB.made v7 rfl 34 false none 0 0 0).on b8; obtain ⟨p0, p1, p2, g0, g1, g2, _⟩ := zz.cells; have zz := Lib.hid zz) | skip
         clear b8))
    all_goals go_wp2_with fail
    all_goals go_meet
    all_goals (first | (exact ⟨_, B3, m3, d3, rfl, rfl, zz.out.put_d xn B3 m3 d3 xe, zz.out.br tR r3.out _ _ _, below_put3 kk (by omega) _ _ _⟩) | (exact ⟨_, B3, m3, d3, rfl, rfl, DB.made v8 rfl 34 xn B3 m3 d3 xe, r3.out.on (below_lit _ _), below_more kk _⟩))
  case rest =>
    obtain ⟨gzy, Azy, nzy, czy, rfl, rfl, zy, Ry, b⟩ := hcut
    obtain ⟨w6, rfl⟩ : ∃ w6 : World, w6 = wc := ⟨_, rfl⟩
    replace za := za.on b
    replace zb := zb.on b
    replace hT := hT.on b
    replace h1 := h1.on b
    replace h2 := h2.on b
    replace Rx := Rx.on b
    replace zx := zx.on b
    replace BW := Below.step BW b
    clear b
    obtain ⟨zac0, zac1, zac2, zaf0, zaf1, zaf2, zal⟩ := za.cells
    obtain ⟨zbc0, zbc1, zbc2, zbf0, zbf1, zbf2, zbl⟩ := zb.cells
    go_wp2_with fail
    refine (dsub_as h1 h2 (by omega) (by omega) hT eu.out).mono ?_
    rintro en w7 ⟨V_Ru, v_Ru, rfl, Ru, b⟩
    clear zac0 zac1 zac2 zaf0 zaf1 zaf2 zal zbc0 zbc1 zbc2 zbf0 zbf1 zbf2 zbl
    replace za := za.on b
    replace zb := zb.on b
    replace hT := hT.on b
    replace h1 := h1.on b
    replace h2 := h2.on b
    replace Rx := Rx.on b
    replace zx := zx.on b
    replace zy := zy.on b
    replace Ry := Ry.on b
    replace BW := Below.step BW b
    clear b
    have l_Ru := res_n_le Ru (k := 128) mu.out
    go_upto_region 8 with fail
    obtain ⟨w8, e_w8⟩ : ∃ w', w7.alloc (dob un V_Ru v_Ru v_Ru ue 25) = w' := ⟨_, rfl⟩
    have b : Below w7.heap.size w7 w8 := e_w8 ▸ below_lit _ _
    have hs_w8 : w8.heap.size = w7.heap.size + 1 := e_w8 ▸ size_lit w7 _ rfl
    have zu : DB w8 w7.heap.size 25 un V_Ru v_Ru v_Ru ue := e_w8 ▸ DB.made w7 rfl 25 un V_Ru v_Ru v_Ru ue
    rw [e_w8]
    clear e_w8
    replace za := za.on b
    replace zb := zb.on b
    replace hT := hT.on b
    replace h1 := h1.on b
    replace h2 := h2.on b
    replace Rx := Rx.on b
    replace zx := zx.on b
    replace zy := zy.on b
    replace Ry := Ry.on b
    replace Ru := Ru.on b
    replace BW := Below.step BW b
    clear b
    clear hs_w8
    go_cut [11, 12] (CutR w8 un ux ue uerr)
    case first =>
      have HS : Hid (∀ w', Below w8.heap.size w8 w' → w'.cell? ⟨w.heap.size, 0, none⟩ = some (.bool na) ∧ w'.cell? ⟨w.heap.size, 1, none⟩ = some (.slice A1 n1 c1) ∧ w'.cell? ⟨w.heap.size, 2, none⟩ = some (.int .i64 ea) ∧ w'.cell? ⟨w.heap.size + 1, 0, none⟩ = some (.bool nb) ∧ w'.cell? ⟨w.heap.size + 1, 1, none⟩ = some (.slice A2 n2 c2) ∧ w'.cell? ⟨w.heap.size + 1, 2, none⟩ = some (.int .i64 eb)) := fun w' hb => by
        obtain ⟨p0, p1, p2, _⟩ := (za.on hb).cells
        obtain ⟨q0, q1, q2, _⟩ := (zb.on hb).cells
        exact ⟨p0, p1, p2, q0, q1, q2⟩
      have kk : Below w8.heap.size w8 w8.drew := (Below.refl _ _).drew
      have kd : Below w8.heap.size w8 (w8.alloc (dob false none 0 0 0 34)).drew := (below_more (Below.refl _ _) _).drew
      have H1 := Lib.hid h1
      have H2 := Lib.hid h2
      clear za zb hT h1 h2 Rx zx zy Ry Ru zu
      go_region_held3 (fun w' => w'.cell? ⟨w.heap.size, 0, none⟩ = some (.bool na) ∧ w'.cell? ⟨w.heap.size, 1, none⟩ = some (.slice A1 n1 c1) ∧ w'.cell? ⟨w.heap.size, 2, none⟩ = some (.int .i64 ea) ∧ w'.cell? ⟨w.heap.size + 1, 0, none⟩ = some (.bool nb) ∧ w'.cell? ⟨w.heap.size + 1, 1, none⟩ = some (.slice A2 n2 c2) ∧ w'.cell? ⟨w.heap.size + 1, 2, none⟩ = some (.int .i64 eb))
        ((refine HS.out _ ?_; first | (with_reducible assumption) | (with_reducible exact below_more (by assumption) _) | ((with_reducible refine below_put3 ?_ ?_ _ _ _) <;> first | (with_reducible assumption) | omega)))
        (first
        | (go_at_call_of 12 (Value.agg #[.bool na, .slice A1 n1 c1, .int .i64 ea])
           refine (own_any (H1.out.on (by first | (with_reducible assumption) | (with_reducible exact below_more (by assumption) _))) (by omega)).mono ?_
           rintro e v6 ⟨B1, m1, d1, rfl, r1, b6⟩
           have kk := Below.step (show Below w8.heap.size w8 _ from (by first | (with_reducible assumption) | (with_reducible exact below_more (by assumption) _))) b6
           have hz6 := kk.size
           have r1 := Lib.hid r1
           have b6 := Lib.hid b6)
        | (go_at_call_of 12 (Value.agg #[.bool nb, .slice A2 n2 c2, .int .i64 eb])
           refine (own_any (H2.out.on (by first | (with_reducible assumption) | (with_reducible exact below_more (by assumption) _))) (by omega)).mono ?_
           rintro e v7 ⟨B2, m2, d2, rfl, r2, b7⟩
           have kk := Below.step (show Below w8.heap.size w8 _ from (by first | (with_reducible assumption) | (with_reducible exact below_more (by assumption) _))) b7
           have hz7 := kk.size
           have r1 := Lib.hid (r1.out.on (show Below v6.heap.size v6 v7 by first | (with_reducible exact b7) | (with_reducible exact Below.step (below_lit _ _) b7)))
           have r2 := Lib.hid r2
           have b7 := Lib.hid b7)
        | (go_at_call 14
           refine (turned_any (r2.out.on (by first | (with_reducible exact Below.refl _ _) | (with_reducible exact below_lit _ _)))).mono ?_
           rintro e v9 ⟨B2, m2, d2, rfl, r2, b9⟩
           have kk := Below.step (show Below w8.heap.size w8 _ from (by first | (with_reducible assumption) | (with_reducible exact below_more (by assumption) _))) b9
           have hz9 := kk.size
           have r1 := Lib.hid (r1.out.on (show Below v7.heap.size v7 v9 by first | (with_reducible exact b9) | (with_reducible exact Below.step (below_lit _ _) b9)))
           have r2 := Lib.hid r2
           have b9 := Lib.hid b9)
        | (go_at_call 11
           refine (rAdd_as (r1.out.on (by first | (with_reducible exact Below.refl _ _) | (with_reducible exact below_lit _ _))) (r2.out.on (by first | (with_reducible exact Below.refl _ _) | (with_reducible exact below_lit _ _))) (by rw [r1.out.size]; exact hb1) (by rw [r2.out.size]; exact hb2) eu).mono ?_
           rintro e v8 ⟨B3, m3, d3, rfl, r3, b8⟩
           have kk := Below.step (show Below w8.heap.size w8 _ from (by first | (with_reducible assumption) | (with_reducible exact below_more (by assumption) _))) b8
           have hz8 := kk.size
           have r3 := Lib.hid r3
           first | (have zz := ((((DB.made_drew w8 rfl 34 false none 0 0 0).on b6.out).on b7.out).on b9.out).on b8; obtain ⟨p0, p1, p2, g0, g1, g2, _⟩ := zz.cells; have zz := Lib.hid zz) | (have zz := (((DB.made v6 rfl 34 false none 0 0 0).on b7.out).on b9.out).on b8; obtain ⟨p0, p1, p2, g0, g1, g2, _⟩ := zz.cells; have zz := Lib.hid zz) | (have zz := ((DB.made v7 rfl 34 false none 0 0 0).on b9.out).on b8; obtain ⟨p0, p1, p2, g0, g1, g2, _⟩ := zz.cells; have zz := Lib.hid zz) | (have zz := (DB.made v9 rfl 34 false none 0 0 0).on b8; obtain ⟨p0, p1, p2, g0, g1, g2, _⟩ := zz.cells; have zz := Lib.hid zz) | skip
           clear b8))
      all_goals go_wp2_with fail
      all_goals go_meet
      all_goals (first | (exact ⟨_, B3, m3, d3, rfl, rfl, zz.out.put_d un B3 m3 d3 ue, zz.out.br tR r3.out _ _ _, below_put3 kk (by omega) _ _ _⟩) | (exact ⟨_, B3, m3, d3, rfl, rfl, DB.made v8 rfl 34 un B3 m3 d3 ue, r3.out.on (below_lit _ _), below_more kk _⟩))
    case rest =>
      obtain ⟨gzv, Azv, nzv, czv, rfl, rfl, zv, Rv, b⟩ := hcut
      obtain ⟨w9, rfl⟩ : ∃ w9 : World, w9 = wc := ⟨_, rfl⟩
      replace za := za.on b
      replace zb := zb.on b
      replace hT := hT.on b
      replace h1 := h1.on b
      replace h2 := h2.on b
      replace Rx := Rx.on b
      replace zx := zx.on b
      replace zy := zy.on b
      replace Ry := Ry.on b
      replace Ru := Ru.on b
      replace zu := zu.on b
      replace BW := Below.step BW b
      clear b
      obtain ⟨zac0, zac1, zac2, zaf0, zaf1, zaf2, zal⟩ := za.cells
      obtain ⟨zbc0, zbc1, zbc2, zbf0, zbf1, zbf2, zbl⟩ := zb.cells
      go_wp2_with fail
      refine (dcmp_as h1 h2 (by omega) (by omega) hT eq.out).mono ?_
      rintro en w10 ⟨rfl, b⟩
      clear zac0 zac1 zac2 zaf0 zaf1 zaf2 zal zbc0 zbc1 zbc2 zbf0 zbf1 zbf2 zbl
      replace za := za.on b
      replace zb := zb.on b
      replace hT := hT.on b
      replace h1 := h1.on b
      replace h2 := h2.on b
      replace Rx := Rx.on b
      replace zx := zx.on b
      replace zy := zy.on b
      replace Ry := Ry.on b
      replace Ru := Ru.on b
      replace zu := zu.on b
      replace zv := zv.on b
      replace Rv := Rv.on b
      replace BW := Below.step BW b
      clear b
      go_wp2_with fail
      have HS : Hid (∀ w', Below w10.heap.size w10 w' → w'.cell? ⟨w.heap.size, 0, none⟩ = some (.bool na) ∧ w'.cell? ⟨w.heap.size, 1, none⟩ = some (.slice A1 n1 c1) ∧ w'.cell? ⟨w.heap.size, 2, none⟩ = some (.int .i64 ea) ∧ w'.cell? ⟨w.heap.size + 1, 0, none⟩ = some (.bool nb) ∧ w'.cell? ⟨w.heap.size + 1, 1, none⟩ = some (.slice A2 n2 c2) ∧ w'.cell? ⟨w.heap.size + 1, 2, none⟩ = some (.int .i64 eb)) := fun w' hb => by
        obtain ⟨p0, p1, p2, _⟩ := (za.on hb).cells
        obtain ⟨q0, q1, q2, _⟩ := (zb.on hb).cells
        exact ⟨p0, p1, p2, q0, q1, q2⟩
      have kk : Below w10.heap.size w10 w10.drew := (Below.refl _ _).drew
      have H1 := Lib.hid h1
      have H2 := Lib.hid h2
      replace za := Lib.hid za
      replace zb := Lib.hid zb
      replace hT := Lib.hid hT
      replace Rx := Lib.hid Rx
      replace zx := Lib.hid zx
      replace zy := Lib.hid zy
      replace Ry := Lib.hid Ry
      replace Ru := Lib.hid Ru
      replace zu := Lib.hid zu
      replace zv := Lib.hid zv
      replace Rv := Lib.hid Rv
      replace BW := Lib.hid BW
      clear h1 h2
      go_region_held3 (fun w' => w'.cell? ⟨w.heap.size, 0, none⟩ = some (.bool na) ∧ w'.cell? ⟨w.heap.size, 1, none⟩ = some (.slice A1 n1 c1) ∧ w'.cell? ⟨w.heap.size, 2, none⟩ = some (.int .i64 ea) ∧ w'.cell? ⟨w.heap.size + 1, 0, none⟩ = some (.bool nb) ∧ w'.cell? ⟨w.heap.size + 1, 1, none⟩ = some (.slice A2 n2 c2) ∧ w'.cell? ⟨w.heap.size + 1, 2, none⟩ = some (.int .i64 eb))
        ((refine HS.out _ ?_; with_reducible assumption))
        (first
        | (go_at_call_of 12 (Value.agg #[.bool na, .slice A1 n1 c1, .int .i64 ea])
           refine (own_any (H1.out.on kk) (by omega)).mono ?_
           rintro e v6 ⟨B1, m1, d1, rfl, r1, b6⟩
           have kk := Below.step kk b6
           have r1 := Lib.hid r1
           clear b6)
        | (go_at_call_of 12 (Value.agg #[.bool nb, .slice A2 n2 c2, .int .i64 eb])
           refine (own_any (H2.out.on kk) (by omega)).mono ?_
           rintro e v7 ⟨B2, m2, d2, rfl, r2, b7⟩
           have kk := Below.step kk b7
           have r1 := Lib.hid (r1.out.on b7)
           have r2 := Lib.hid r2
           clear b7)
        | (go_at_call 16
           refine (rCmp_as r1.out r2.out (by rw [r1.out.size]; exact hb1) (by rw [r2.out.size]; exact hb2) eq).mono ?_
           rintro e v8 ⟨rfl, b8⟩
           have kk := Below.step kk b8
           clear b8))
      replace BW := Below.step BW.out kk
      replace za := za.out.on kk
      replace zb := zb.out.on kk
      replace hT := hT.out.on kk
      replace Rx := Rx.out.on kk
      replace zx := zx.out.on kk
      replace zy := zy.out.on kk
      replace Ry := Ry.out.on kk
      replace Ru := Ru.out.on kk
      replace zu := zu.out.on kk
      replace zv := zv.out.on kk
      replace Rv := Rv.out.on kk
      have h1 := H1.out.on kk
      have h2 := H2.out.on kk
      have l_Ry := Ry.le (k := 100000) (Nat.le_trans mx.out (by omega))
      have l_Rv := Rv.le (k := 100000) (Nat.le_trans mu.out (by omega))
      obtain ⟨zxc0, zxc1, zxc2, zxf0, zxf1, zxf2, zxl⟩ := zx.cells
      obtain ⟨zyc0, zyc1, zyc2, zyf0, zyf1, zyf2, zyl⟩ := zy.cells
      go_wp2_with fail
      refine (is_any Rx Ry (by omega) (by omega)).mono ?_
      rintro en w11 ⟨rfl, b⟩
      clear zxc0 zxc1 zxc2 zxf0 zxf1 zxf2 zxl zyc0 zyc1 zyc2 zyf0 zyf1 zyf2 zyl
      replace za := za.on b
      replace zb := zb.on b
      replace hT := hT.on b
      replace h1 := h1.on b
      replace h2 := h2.on b
      replace Rx := Rx.on b
      replace zx := zx.on b
      replace zy := zy.on b
      replace Ry := Ry.on b
      replace Ru := Ru.on b
      replace zu := zu.on b
      replace zv := zv.on b
      replace Rv := Rv.on b
      replace BW := Below.step BW b
      clear b
      obtain ⟨zuc0, zuc1, zuc2, zuf0, zuf1, zuf2, zul⟩ := zu.cells
      obtain ⟨zvc0, zvc1, zvc2, zvf0, zvf1, zvf2, zvl⟩ := zv.cells
      go_wp2_with fail
      refine (is_any Ru Rv (by omega) (by omega)).mono ?_
      rintro en w12 ⟨rfl, b⟩
      clear zuc0 zuc1 zuc2 zuf0 zuf1 zuf2 zul zvc0 zvc1 zvc2 zvf0 zvf1 zvf2 zvl
      replace za := za.on b
      replace zb := zb.on b
      replace hT := hT.on b
      replace h1 := h1.on b
      replace h2 := h2.on b
      replace Rx := Rx.on b
      replace zx := zx.on b
      replace zy := zy.on b
      replace Ry := Ry.on b
      replace Ru := Ru.on b
      replace zu := zu.on b
      replace zv := zv.on b
      replace Rv := Rv.on b
      replace BW := Below.step BW b
      clear b
      obtain ⟨bq, hbq⟩ : ∃ b, (q == 0) = b := ⟨_, rfl⟩
      obtain ⟨be, hbe⟩ : ∃ b, (qerr == 0) = b := ⟨_, rfl⟩
      cases bq <;> cases be
      all_goals
        obtain ⟨zac0, zac1, zac2, zaf0, zaf1, zaf2, zal⟩ := za.cells
        obtain ⟨zbc0, zbc1, zbc2, zbf0, zbf1, zbf2, zbl⟩ := zb.cells
        go_wp2_with fail
        first | refine (dsame_as h1 h2 (by omega) (by omega) hT eq.out true (by rw [hbq, hbe]; rfl)).mono ?_ | refine (dsame_as h1 h2 (by omega) (by omega) hT eq.out false (by rw [hbq, hbe]; rfl)).mono ?_
        rintro en v9 ⟨rfl, b⟩
        go_wp2_with fail
        go_ret
        exact ⟨rfl, Below.step BW b⟩

theorem addS_blen {a b : D} {n : Bool} {x : Nat} {e err : Int} (h : addS a b = (⟨n, x, e⟩, err)) : blen x ≤ 32 * 128 := by
  have key : ∀ d : D, blen (tld d).1.x ≤ 4096 := fun d => by
    by_cases hm : d.may = true
    · rw [tld_ok hm]; exact ((D.may_iff d).1 hm).1
    · rw [tld_over (by simpa using hm)]; exact Nat.zero_le _
  have h2 : blen (addS a b).1.x ≤ 4096 := by
    by_cases ma : a.may = true
    · by_cases mb : b.may = true
      · rw [addS_ok ma mb]; exact key _
      · rw [addS_err (.inr (by simpa using mb))]; exact Nat.zero_le _
    · rw [addS_err (.inl (by simpa using ma))]; exact Nat.zero_le _
  rw [h] at h2
  exact h2

set_option maxHeartbeats 1000000 in
set_option maxRecDepth 100000 in
theorem sums_walk {A1 A2 : Option Addr} {n1 c1 n2 c2 x y : Nat} {na nb : Bool} {ea eb : Int} {w : World} (h1 : Arg w A1 n1 c1 x) (_ : (Lit.int .i64 ea).wf = true) (h2 : Arg w A2 n2 c2 y) (_ : (Lit.int .i64 eb).wf = true) (hT : Tab w) :
    Calls Tryd.prog 3 #[.agg #[.bool na, .slice A1 n1 c1, .int .i64 ea], .agg #[.bool nb, .slice A2 n2 c2, .int .i64 eb]] w fun e w' => e = .returned (.bool true) ∧ Below w.heap.size w w' := by
  have q1 := h1.n_le
  have q2 := h2.n_le
  by_cases s1 : n1 ≤ 140
  · by_cases s2 : n2 ≤ 140
    · obtain ⟨⟨⟨xn, xx, xe⟩, xerr⟩, es⟩ : ∃ r, addS ⟨na, x, ea⟩ ⟨nb, y, eb⟩ = r := ⟨_, rfl⟩
      obtain ⟨⟨⟨un, ux, ue⟩, uerr⟩, eu⟩ : ∃ r, addS ⟨na, x, ea⟩ ⟨!nb, y, eb⟩ = r := ⟨_, rfl⟩
      obtain ⟨⟨q, qerr⟩, eq⟩ : ∃ r, cmpS ⟨na, x, ea⟩ ⟨nb, y, eb⟩ = r := ⟨_, rfl⟩
      have l1 := h1.blen
      have l2 := h2.blen
      exact sums_main h1 h2 hT s1 s2 es (addS_blen es) eu (addS_blen eu) eq (by omega) (by omega)
    · go_enter Tryd.func3, Tryd.ntmps3
      go_wp2_with fail
      obtain ⟨W, hW, za, zb, BW, sW⟩ := frame2 w 25 25 na A1 n1 c1 ea nb A2 n2 c2 eb
      rw [hW]
      clear hW
      refine (awake2_any (hT.on BW)).mono ?_
      rintro en w1 ⟨rfl, b⟩
      have za := za.on b
      have zb := zb.on b
      have BW := Below.step BW b
      clear b
      obtain ⟨p0, p1, p2, g0, g1, g2, _⟩ := za.cells
      go_wp2_with fail
      refine (large_any false (by omega) (decide_eq_false (by omega))).mono ?_
      rintro en w2 ⟨rfl, b⟩
      have zb := zb.on b
      have BW := Below.step BW b
      clear b p0 p1 p2 g0 g1 g2
      obtain ⟨p0, p1, p2, g0, g1, g2, _⟩ := zb.cells
      go_wp2_with fail
      refine (large_any true (by omega) (decide_eq_true (by omega))).mono ?_
      rintro en w3 ⟨rfl, b⟩
      go_wp2_with fail
      go_ret
      exact ⟨rfl, Below.step BW b⟩
  · go_enter Tryd.func3, Tryd.ntmps3
    go_wp2_with fail
    obtain ⟨W, hW, za, zb, BW, sW⟩ := frame2 w 25 25 na A1 n1 c1 ea nb A2 n2 c2 eb
    rw [hW]
    clear hW
    refine (awake2_any (hT.on BW)).mono ?_
    rintro en w1 ⟨rfl, b⟩
    have za := za.on b
    have BW := Below.step BW b
    clear b
    obtain ⟨p0, p1, p2, g0, g1, g2, _⟩ := za.cells
    go_wp2_with fail
    refine (large_any true (by omega) (decide_eq_true (by omega))).mono ?_
    rintro en w2 ⟨rfl, b⟩
    go_wp2_with fail
    go_ret
    exact ⟨rfl, Below.step BW b⟩
end Go.Proofs.YthaehfdjldjdiaaDoor
