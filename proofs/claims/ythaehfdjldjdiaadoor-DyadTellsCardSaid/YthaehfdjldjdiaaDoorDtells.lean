
/-
  The reference's Floor; the walk of the law DyadTells.
-/
import Derived.Test.YthaehfdjldjdiaaDoorRd
import Derived.Test.YthaehfdjldjdiaaDoorDj
import Derived.Deep.DeepCutAuto
namespace Go.Proofs.YthaehfdjldjdiaaDoor
open Go.RowKit
set_option linter.unusedVariables false

def CutR (w0 : World) (rn : Bool) (rx : Nat) (re err : Int) (s7 s8 : Value) (wx : World) : Prop :=
  ∃ g A n c, s7 = .pointer (some ⟨g, 0, none⟩) ∧ s8 = .int .i64 err ∧ DB wx g 34 rn A n c re ∧ BR wx A n c rx ∧ Below w0.heap.size w0 wx
theorem DB.made_drew (w : World) {s : Nat} (hs : w.heap.size = s) (t : TypeId) (neg : Bool) (A : Option Addr) (n c : Nat) (e : Int) : DB (w.alloc (dob neg A n c e t)).drew s t neg A n c e := (DB.made w hs t neg A n c e).on ((Below.refl _ _).drew)
theorem below_more {w0 w : World} (h : Below w0.heap.size w0 w) (o : Obj) : Below w0.heap.size w0 (w.alloc o) := h.alloc h.size o

def FlR (w : World) (rn : Bool) (rx : Nat) (re : Int) (bl : Bool) (err : Int) (e : Ending) (w' : World) : Prop := ∃ A n c, e = .returned (.tuple #[.agg #[.bool rn, .slice A n c, .int .i64 re], .bool bl, .int .i64 err]) ∧ BR w' A n c rx ∧ Below w.heap.size w w'
set_option maxHeartbeats 1000000 in
theorem rfloor_err {A : Option Addr} {n c x : Nat} {neg : Bool} {e at_ : Int} {w : World} {rn : Bool} {rx : Nat} {re : Int} {bl : Bool} {err : Int} (h : BR w A n c x) (hn : n ≤ 100000) (HM : Hid (D.may ⟨neg, x, e⟩ = false)) (hr : floorS ⟨neg, x, e⟩ at_ = (⟨rn, rx, re⟩, bl, err)) :
    Calls Tryd.prog 25 #[.agg #[.bool neg, .slice A n c, .int .i64 e], .int .i64 at_] w (FlR w rn rx re bl err) := by
  rw [floorS_err _ HM.out] at hr
  injection hr with hr hr2
  injection hr with i1' i2' i3'
  injection hr2 with j1 j2
  subst i1' i2' i3' j1 j2
  go_enter Tryd.func25, Tryd.ntmps25
  go_wp2_with fail
  obtain ⟨W, hW, z0, z1, BW, sW⟩ := frame2 w 34 34 neg A n c e false none 0 0 0
  rw [hW]
  clear hW
  refine (rmay_any false (h.on BW) (by omega) HM.out).mono ?_
  rintro en w1 ⟨rfl, b⟩
  replace z0 := z0.on b
  replace z1 := z1.on b
  replace BW := Below.step BW b
  clear b
  obtain ⟨p0, p1, p2, g0, g1, g2, hl3⟩ := z1.cells
  go_wp2_with fail
  refine bodyPost_ret (v := .tuple #[.agg #[.bool false, .slice none 0 0, .int .i64 0], .bool false, .int .i64 3]) (by simp [results, Tryd.results25, go_sem, p0, p1, p2]) rfl ?_
  exact ⟨none, 0, 0, rfl, BR.none_ _, below_put3 BW (by omega) _ _ _⟩

set_option maxHeartbeats 1000000 in
theorem rfloor_arg {A : Option Addr} {n c x : Nat} {neg : Bool} {e at_ : Int} {w : World} {rn : Bool} {rx : Nat} {re : Int} {bl : Bool} {err : Int} (h : BR w A n c x) (hn : n ≤ 100000) (HM : Hid (D.may ⟨neg, x, e⟩ = true)) (hp : at_ < -8192 ∨ -8192 ≤ at_ ∧ 8192 < at_) (hr : floorS ⟨neg, x, e⟩ at_ = (⟨rn, rx, re⟩, bl, err)) :
    Calls Tryd.prog 25 #[.agg #[.bool neg, .slice A n c, .int .i64 e], .int .i64 at_] w (FlR w rn rx re bl err) := by
  rw [floorS_arg HM.out (by have := (plB_iff at_).1; cases hb : plB at_; rfl; exact absurd (this hb) (by omega))] at hr
  injection hr with hr hr2
  injection hr with i1' i2' i3'
  injection hr2 with j1 j2
  subst i1' i2' i3' j1 j2
  rcases hp with hp | ⟨hp, hp2⟩
  all_goals
    go_enter Tryd.func25, Tryd.ntmps25
    go_wp2_with fail
    obtain ⟨W, hW, z0, z1, BW, sW⟩ := frame2 w 34 34 neg A n c e false none 0 0 0
    rw [hW]
    clear hW
    refine (rmay_any true (h.on BW) (by omega) HM.out).mono ?_
    rintro en w1 ⟨rfl, b⟩
    replace z0 := z0.on b
    replace z1 := z1.on b
    replace BW := Below.step BW b
    clear b
    obtain ⟨p0, p1, p2, g0, g1, g2, hl3⟩ := z1.cells
    go_wp2_with fail
    refine bodyPost_ret (v := .tuple #[.agg #[.bool false, .slice none 0 0, .int .i64 0], .bool false, .int .i64 1]) (by simp [results, Tryd.results25, go_sem, p0, p1, p2]) rfl ?_
    exact ⟨none, 0, 0, rfl, BR.none_ _, below_put3 BW (by omega) _ _ _⟩

set_option maxHeartbeats 1000000 in
theorem rfloor_ge {A : Option Addr} {n c x : Nat} {neg : Bool} {e at_ : Int} {w : World} {rn : Bool} {rx : Nat} {re : Int} {bl : Bool} {err : Int} (h : BR w A n c x) (hn : n ≤ 100000) (HM : Hid (D.may ⟨neg, x, e⟩ = true)) (t1 : -8192 ≤ at_) (t2 : at_ ≤ 8192) (hge : at_ ≤ e) (hr : floorS ⟨neg, x, e⟩ at_ = (⟨rn, rx, re⟩, bl, err)) :
    Calls Tryd.prog 25 #[.agg #[.bool neg, .slice A n c, .int .i64 e], .int .i64 at_] w (FlR w rn rx re bl err) := by
  obtain ⟨m0, m1, m2⟩ := (D.may_iff _).1 HM.out
  simp only at m0 m1 m2
  unfold floorS at hr
  rw [HM.out, (plB_iff at_).2 ⟨t1, t2⟩, if_pos rfl, if_pos rfl, if_pos (show at_ ≤ (D.mk neg x e).e from hge)] at hr
  injection hr with hr hr2
  injection hr2 with j1 j2
  subst j1 j2
  have HD := Lib.hid hr
  clear hr
  go_enter Tryd.func25, Tryd.ntmps25
  go_wp2_with fail
  obtain ⟨W, hW, z0, z1, BW, sW⟩ := frame2 w 34 34 neg A n c e false none 0 0 0
  rw [hW]
  clear hW
  refine (rmay_any true (h.on BW) (by omega) HM.out).mono ?_
  rintro en w1 ⟨rfl, b⟩
  replace z0 := z0.on b
  replace z1 := z1.on b
  replace BW := Below.step BW b
  clear b
  obtain ⟨q0, q1, q2, i0, i1, i2, hl2⟩ := z0.cells
  go_wp2_with fail
  refine (rplain_any (h.on BW) (by omega) (by omega) (by omega) HD.out).mono ?_
  rintro en w2 ⟨V, v, d, rfl, rv, b⟩
  replace z1 := z1.on b
  replace BW := Below.step BW b
  clear b q0 q1 q2 i0 i1 i2
  obtain ⟨p0, p1, p2, g0, g1, g2, hl3⟩ := z1.cells
  go_wp2_with fail
  refine bodyPost_ret (v := .tuple #[.agg #[.bool rn, .slice V v d, .int .i64 re], .bool false, .int .i64 0]) (by simp [results, Tryd.results25, go_sem, p0, p1, p2]) rfl ?_
  exact ⟨V, v, d, rfl, z1.br tR rv _ _ _, below_put3 BW (by omega) _ _ _⟩

set_option maxHeartbeats 1000000 in
theorem rfloor_lt {A : Option Addr} {n c x : Nat} {neg : Bool} {e at_ : Int} {w : World} {rn : Bool} {rx : Nat} {re : Int} {bl : Bool} {err : Int} (h : BR w A n c x) (hn : n ≤ 100000) (HM : Hid (D.may ⟨neg, x, e⟩ = true)) (t1 : -8192 ≤ at_) (t2 : at_ ≤ 8192) (hlt : e < at_) (hr : floorS ⟨neg, x, e⟩ at_ = (⟨rn, rx, re⟩, bl, err)) :
    Calls Tryd.prog 25 #[.agg #[.bool neg, .slice A n c, .int .i64 e], .int .i64 at_] w (FlR w rn rx re bl err) := by
  obtain ⟨m0, m1, m2⟩ := (D.may_iff _).1 HM.out
  simp only at m0 m1 m2
  unfold floorS at hr
  rw [HM.out, (plB_iff at_).2 ⟨t1, t2⟩, if_pos rfl, if_pos rfl, if_neg (show ¬ at_ ≤ (D.mk neg x e).e by show ¬ at_ ≤ e; omega)] at hr
  injection hr with hr hr2
  injection hr2 with j1 j2
  simp only at hr j1
  subst j2
  have HD := Lib.hid hr
  have HBL := Lib.hid j1
  clear hr j1
  go_enter Tryd.func25, Tryd.ntmps25
  go_wp2_with fail
  obtain ⟨W, hW, z0, z1, BW, sW⟩ := frame2 w 34 34 neg A n c e false none 0 0 0
  rw [hW]
  clear hW
  refine (rmay_any true (h.on BW) (by omega) HM.out).mono ?_
  rintro en w1 ⟨rfl, b⟩
  replace z0 := z0.on b
  replace z1 := z1.on b
  replace BW := Below.step BW b
  clear b
  obtain ⟨q0, q1, q2, i0, i1, i2, hl2⟩ := z0.cells
  go_wp2_with fail
  refine (rright_bl (h.on BW) (by omega) (at_ - e) bl HBL).mono ?_
  rintro en w' ⟨X, l, k, rfl, rr, rfl⟩
  have hl := rr.le (k := 100000) (Nat.le_trans (blen_le_of (Nat.div_le_self _ _)) (by rw [← h.size]; omega))
  go_wp2_with fail
  refine (rplain_any rr (by omega) (by omega) (by omega) HD.out).mono ?_
  rintro en w2 ⟨V, v, d, rfl, rv, b⟩
  replace z1 := z1.on b
  replace BW := Below.step BW b
  clear b q0 q1 q2 i0 i1 i2
  obtain ⟨p0, p1, p2, g0, g1, g2, hl3⟩ := z1.cells
  go_wp2_with fail
  refine bodyPost_ret (v := .tuple #[.agg #[.bool rn, .slice V v d, .int .i64 re], .bool bl, .int .i64 0]) (by simp [results, Tryd.results25, go_sem, p0, p1, p2]) rfl ?_
  exact ⟨V, v, d, rfl, z1.br tR rv _ _ _, below_put3 BW (by omega) _ _ _⟩

theorem rFloor_as {A : Option Addr} {n c x : Nat} {neg : Bool} {e at_ : Int} {w : World} {rn : Bool} {rx : Nat} {re : Int} {bl : Bool} {err : Int} (h : BR w A n c x) (hn : n ≤ 100000) (hr : floorS ⟨neg, x, e⟩ at_ = (⟨rn, rx, re⟩, bl, err)) :
    Calls Tryd.prog 25 #[.agg #[.bool neg, .slice A n c, .int .i64 e], .int .i64 at_] w (FlR w rn rx re bl err) := by
  obtain ⟨m, hm⟩ : ∃ b, D.may ⟨neg, x, e⟩ = b := ⟨_, rfl⟩
  cases m
  · exact rfloor_err h hn hm hr
  · by_cases t1 : -8192 ≤ at_
    · by_cases t2 : at_ ≤ 8192
      · by_cases hge : at_ ≤ e
        · exact rfloor_ge h hn hm t1 t2 hge hr
        · exact rfloor_lt h hn hm t1 t2 (by omega) hr
      · exact rfloor_arg h hn hm (.inr ⟨t1, by omega⟩) hr
    · exact rfloor_arg h hn hm (.inl (by omega)) hr

set_option maxHeartbeats 4000000 in
set_option maxRecDepth 100000 in
theorem tells_pos_may {A1 A2 : Option Addr} {n1 c1 n2 c2 x y u : Nat} {na nb : Bool} {ea eb at_ : Int} {w : World} (h1 : Arg w A1 n1 c1 x) (h2 : Arg w A2 n2 c2 y) (hT : Tab w) (s1 : n1 ≤ 70) (s2 : n2 ≤ 70) (hu : u < 18446744073709551616) (hu1 : u ≤ 9223372036854775807) (hb1 : blen x ≤ 100000) (hb2 : blen y ≤ 100000)
    {xn ln on lost : Bool} {xx lx ox : Nat} {xe xerr le lerr oe t terr : Int} {pn : Bool} {px : Nat} {pe : Int} (hpl : Hid (D.pl ⟨na, x, ea⟩ = ⟨pn, px, pe⟩)) (mp : Hid (blen px ≤ 32 * 128)) (ea1 : -8192 ≤ ea) (ea2 : ea ≤ 8192) (em : Hid (mulS ⟨na, x, ea⟩ ⟨nb, y, eb⟩ = (⟨xn, xx, xe⟩, xerr))) (mx : Hid (blen xx ≤ 32 * 128)) (ep : Hid (plainS ⟨na, x, ea⟩ = (⟨pn, px, pe⟩, 0))) (et : Hid (topS ⟨na, x, ea⟩ = (t, terr))) (ef : Hid (floorS ⟨na, x, ea⟩ at_ = (⟨ln, lx, le⟩, lost, lerr))) (ml : Hid (blen lx ≤ 32 * 128)) (eo : Hid (ofD (u : Int) = ⟨on, ox, oe⟩)) (eo2 : Hid (D.pl ⟨false, u, 0⟩ = ⟨on, ox, oe⟩)) (mo_ : Hid (blen ox ≤ 32 * 128)) (hm : Hid (D.may ⟨na, x, ea⟩ = true)) :
    Calls Tryd.prog 4 #[.agg #[.bool na, .slice A1 n1 c1, .int .i64 ea], .agg #[.bool nb, .slice A2 n2 c2, .int .i64 eb], .int .i64 at_, .int .i64 (u : Int)] w fun e w' => e = .returned (.bool true) ∧ Below w.heap.size w w' := by
  go_enter Tryd.func4, Tryd.ntmps4
  go_wp2_with fail
  obtain ⟨W, hW, za, zb, BW, sW⟩ := frame2 w 25 25 na A1 n1 c1 ea nb A2 n2 c2 eb
  rw [hW]
  clear hW
  replace hT := hT.on BW
  replace h1 := h1.on BW
  replace h2 := h2.on BW
  refine (awake2_any hT).mono ?_
  rintro en w1 ⟨rfl, b⟩
  replace za := za.on b
  replace zb := zb.on b
  replace hT := hT.on b
  replace h1 := h1.on b
  replace h2 := h2.on b
  replace BW := Below.step BW b
  clear b
  obtain ⟨zac0, zac1, zac2, zaf0, zaf1, zaf2, zal⟩ := za.cells
  obtain ⟨zbc0, zbc1, zbc2, zbf0, zbf1, zbf2, zbl⟩ := zb.cells
  go_wp2_with fail
  refine (dmul_as h1 h2 (by omega) (by omega) hT em.out).mono ?_
  rintro en w2 ⟨V_Rx, v_Rx, rfl, Rx, b⟩
  clear zac0 zac1 zac2 zaf0 zaf1 zaf2 zal zbc0 zbc1 zbc2 zbf0 zbf1 zbf2 zbl
  replace za := za.on b
  replace zb := zb.on b
  replace hT := hT.on b
  replace h1 := h1.on b
  replace h2 := h2.on b
  replace BW := Below.step BW b
  clear b
  have l_Rx := res_n_le Rx (k := 128) mx.out
  go_upto_region 6 with fail
  obtain ⟨w3, e_w3⟩ : ∃ w', w2.alloc (dob xn V_Rx v_Rx v_Rx xe 25) = w' := ⟨_, rfl⟩
  have b : Below w2.heap.size w2 w3 := e_w3 ▸ below_lit _ _
  have hs_w3 : w3.heap.size = w2.heap.size + 1 := e_w3 ▸ size_lit w2 _ rfl
  have zx : DB w3 w2.heap.size 25 xn V_Rx v_Rx v_Rx xe := e_w3 ▸ DB.made w2 rfl 25 xn V_Rx v_Rx v_Rx xe
  rw [e_w3]
  clear e_w3
  replace za := za.on b
  replace zb := zb.on b
  replace hT := hT.on b
  replace h1 := h1.on b
  replace h2 := h2.on b
  replace Rx := Rx.on b
  replace BW := Below.step BW b
  clear b
  clear hs_w3
  go_cut [11, 12] (CutR w3 xn xx xe xerr)
  case first =>
    have HS : Hid (∀ w', Below w3.heap.size w3 w' → w'.cell? ⟨w.heap.size, 0, none⟩ = some (.bool na) ∧ w'.cell? ⟨w.heap.size, 1, none⟩ = some (.slice A1 n1 c1) ∧ w'.cell? ⟨w.heap.size, 2, none⟩ = some (.int .i64 ea) ∧ w'.cell? ⟨w.heap.size + 1, 0, none⟩ = some (.bool nb) ∧ w'.cell? ⟨w.heap.size + 1, 1, none⟩ = some (.slice A2 n2 c2) ∧ w'.cell? ⟨w.heap.size + 1, 2, none⟩ = some (.int .i64 eb)) := fun w' hb => by
      obtain ⟨p0, p1, p2, _⟩ := (za.on hb).cells
      obtain ⟨q0, q1, q2, _⟩ := (zb.on hb).cells
      exact ⟨p0, p1, p2, q0, q1, q2⟩
    have kk : Below w3.heap.size w3 w3.drew := (Below.refl _ _).drew
    have kd : Below w3.heap.size w3 (w3.alloc (dob false none 0 0 0 34)).drew := (below_more (Below.refl _ _) _).drew
    have H1 := Lib.hid h1
    have H2 := Lib.hid h2
    clear za zb hT h1 h2 Rx zx
    go_region_held3 (fun w' => w'.cell? ⟨w.heap.size, 0, none⟩ = some (.bool na) ∧ w'.cell? ⟨w.heap.size, 1, none⟩ = some (.slice A1 n1 c1) ∧ w'.cell? ⟨w.heap.size, 2, none⟩ = some (.int .i64 ea) ∧ w'.cell? ⟨w.heap.size + 1, 0, none⟩ = some (.bool nb) ∧ w'.cell? ⟨w.heap.size + 1, 1, none⟩ = some (.slice A2 n2 c2) ∧ w'.cell? ⟨w.heap.size + 1, 2, none⟩ = some (.int .i64 eb))
      ((refine HS.out _ ?_; first | (with_reducible assumption) | (with_reducible exact below_more (by assumption) _) | ((with_reducible refine below_put3 ?_ ?_ _ _ _) <;> first | (with_reducible assumption) | omega)))
      (first
      | (go_at_call_of 12 (Value.agg #[.bool na, .slice A1 n1 c1, .int .i64 ea])
         refine (own_any (H1.out.on (by first | (with_reducible assumption) | (with_reducible exact below_more (by assumption) _))) (by omega)).mono ?_
         rintro e v6 ⟨B1, m1, d1, rfl, r1, b6⟩
         have kk := Below.step (show Below w3.heap.size w3 _ from (by first | (with_reducible assumption) | (with_reducible exact below_more (by assumption) _))) b6
         have hz6 := kk.size
         have r1 := Lib.hid r1
         have b6 := Lib.hid b6)
      | (go_at_call_of 12 (Value.agg #[.bool nb, .slice A2 n2 c2, .int .i64 eb])
         refine (own_any (H2.out.on (by first | (with_reducible assumption) | (with_reducible exact below_more (by assumption) _))) (by omega)).mono ?_
         rintro e v7 ⟨B2, m2, d2, rfl, r2, b7⟩
         have kk := Below.step (show Below w3.heap.size w3 _ from (by first | (with_reducible assumption) | (with_reducible exact below_more (by assumption) _))) b7
         have hz7 := kk.size
         have r1 := Lib.hid (r1.out.on (show Below v6.heap.size v6 v7 by first | (with_reducible exact b7) | (with_reducible exact Below.step (below_lit _ _) b7)))
         have r2 := Lib.hid r2
         have b7 := Lib.hid b7)
      | (go_at_call 20
         refine (rMul_as (r1.out.on (by first | (with_reducible exact Below.refl _ _) | (with_reducible exact below_lit _ _))) (r2.out.on (by first | (with_reducible exact Below.refl _ _) | (with_reducible exact below_lit _ _))) (by rw [r1.out.size]; exact hb1) (by rw [r2.out.size]; exact hb2) em).mono ?_
         rintro e v8 ⟨B3, m3, d3, rfl, r3, b8⟩
         have kk := Below.step (show Below w3.heap.size w3 _ from (by first | (with_reducible assumption) | (with_reducible exact below_more (by assumption) _))) b8
         have hz8 := kk.size
         have r3 := Lib.hid r3
         first | (have zz := (((DB.made_drew w3 rfl 34 false none 0 0 0).on b6.out).on b7.out).on b8; obtain ⟨p0, p1, p2, g0, g1, g2, _⟩ := zz.cells; have zz := Lib.hid zz) | (have zz := ((DB.made v6 rfl 34 false none 0 0 0).on b7.out).on b8; obtain ⟨p0, p1, p2, g0, g1, g2, _⟩ := zz.cells; have zz := Lib.hid zz) | (have zz := (DB.made v7 rfl 34 false none 0 0 0).on b8; obtain ⟨p0, p1, p2, g0, g1, g2, _⟩ := zz.cells; have zz := Lib.hid zz) | skip
         clear b8))
    all_goals go_wp2_with fail
    all_goals go_meet
    all_goals (first | (exact ⟨_, B3, m3, d3, rfl, rfl, zz.out.put_d xn B3 m3 d3 xe, zz.out.br tR r3.out _ _ _, below_put3 kk (by omega) _ _ _⟩) | (exact ⟨_, B3, m3, d3, rfl, rfl, DB.made v8 rfl 34 xn B3 m3 d3 xe, r3.out.on (below_lit _ _), below_more kk _⟩))
  case rest =>
    obtain ⟨gzy, Azy, nzy, czy, rfl, rfl, zy, Ry, b⟩ := hcut
    obtain ⟨w4, rfl⟩ : ∃ w4 : World, w4 = wc := ⟨_, rfl⟩
    replace za := za.on b
    replace zb := zb.on b
    replace hT := hT.on b
    replace h1 := h1.on b
    replace h2 := h2.on b
    replace Rx := Rx.on b
    replace zx := zx.on b
    replace BW := Below.step BW b
    clear b
    obtain ⟨zac0, zac1, zac2, zaf0, zaf1, zaf2, zal⟩ := za.cells
    go_wp2_with fail
    refine (dplain_as h1 (by omega) hT ep.out).mono ?_
    rintro en w5 ⟨V_Rp, v_Rp, rfl, Rp, b⟩
    clear zac0 zac1 zac2 zaf0 zaf1 zaf2 zal
    replace za := za.on b
    replace zb := zb.on b
    replace hT := hT.on b
    replace h1 := h1.on b
    replace h2 := h2.on b
    replace Rx := Rx.on b
    replace zx := zx.on b
    replace zy := zy.on b
    replace Ry := Ry.on b
    replace BW := Below.step BW b
    clear b
    have l_Rp := res_n_le Rp (k := 128) mp.out
    obtain ⟨zac0, zac1, zac2, zaf0, zaf1, zaf2, zal⟩ := za.cells
    go_wp2_with fail
    clear zac0 zac1 zac2 zaf0 zaf1 zaf2 zal
    obtain ⟨w6, e_w6⟩ : ∃ w', w5.alloc (dob pn V_Rp v_Rp v_Rp pe 25) = w' := ⟨_, rfl⟩
    have b : Below w5.heap.size w5 w6 := e_w6 ▸ below_lit _ _
    have hs_w6 : w6.heap.size = w5.heap.size + 1 := e_w6 ▸ size_lit w5 _ rfl
    have zp : DB w6 w5.heap.size 25 pn V_Rp v_Rp v_Rp pe := e_w6 ▸ DB.made w5 rfl 25 pn V_Rp v_Rp v_Rp pe
    rw [e_w6]
    clear e_w6
    replace za := za.on b
    replace zb := zb.on b
    replace hT := hT.on b
    replace h1 := h1.on b
    replace h2 := h2.on b
    replace Rx := Rx.on b
    replace zx := zx.on b
    replace zy := zy.on b
    replace Ry := Ry.on b
    replace Rp := Rp.on b
    replace BW := Below.step BW b
    clear b
    refine (dtop_as h1 (by omega) hT et.out).mono ?_
    rintro en w7 ⟨rfl, b⟩
    replace za := za.on b
    replace zb := zb.on b
    replace hT := hT.on b
    replace h1 := h1.on b
    replace h2 := h2.on b
    replace Rx := Rx.on b
    replace zx := zx.on b
    replace zy := zy.on b
    replace Ry := Ry.on b
    replace Rp := Rp.on b
    replace zp := zp.on b
    replace BW := Below.step BW b
    clear b
    obtain ⟨zac0, zac1, zac2, zaf0, zaf1, zaf2, zal⟩ := za.cells
    go_wp2_with fail
    refine (own_any h1 (by omega)).mono ?_
    rintro en w8 ⟨Bo, mo, do_, rfl, Ro, b⟩
    clear zac0 zac1 zac2 zaf0 zaf1 zaf2 zal
    replace za := za.on b
    replace zb := zb.on b
    replace hT := hT.on b
    replace h1 := h1.on b
    replace h2 := h2.on b
    replace Rx := Rx.on b
    replace zx := zx.on b
    replace zy := zy.on b
    replace Ry := Ry.on b
    replace Rp := Rp.on b
    replace zp := zp.on b
    replace BW := Below.step BW b
    clear b
    have l_Ro := Ro.le (k := 100000) hb1
    go_wp2_with fail
    refine (rtop_as Ro (by omega) et.out).mono ?_
    rintro en w9 ⟨rfl, b⟩
    replace za := za.on b
    replace zb := zb.on b
    replace hT := hT.on b
    replace h1 := h1.on b
    replace h2 := h2.on b
    replace Rx := Rx.on b
    replace zx := zx.on b
    replace zy := zy.on b
    replace Ry := Ry.on b
    replace Rp := Rp.on b
    replace zp := zp.on b
    replace Ro := Ro.on b
    replace BW := Below.step BW b
    clear b
    clear Ro
    obtain ⟨zac0, zac1, zac2, zaf0, zaf1, zaf2, zal⟩ := za.cells
    go_wp2_with fail
    refine (dfloor_as h1 (by omega) hT ef.out).mono ?_
    rintro en w10 ⟨V_Rl, v_Rl, rfl, Rl, b⟩
    clear zac0 zac1 zac2 zaf0 zaf1 zaf2 zal
    replace za := za.on b
    replace zb := zb.on b
    replace hT := hT.on b
    replace h1 := h1.on b
    replace h2 := h2.on b
    replace Rx := Rx.on b
    replace zx := zx.on b
    replace zy := zy.on b
    replace Ry := Ry.on b
    replace Rp := Rp.on b
    replace zp := zp.on b
    replace BW := Below.step BW b
    clear b
    have l_Rl := res_n_le Rl (k := 128) ml.out
    obtain ⟨zac0, zac1, zac2, zaf0, zaf1, zaf2, zal⟩ := za.cells
    go_wp2_with fail
    clear zac0 zac1 zac2 zaf0 zaf1 zaf2 zal
    obtain ⟨w11, e_w11⟩ : ∃ w', w10.alloc (dob ln V_Rl v_Rl v_Rl le 25) = w' := ⟨_, rfl⟩
    have b : Below w10.heap.size w10 w11 := e_w11 ▸ below_lit _ _
    have hs_w11 : w11.heap.size = w10.heap.size + 1 := e_w11 ▸ size_lit w10 _ rfl
    have zl : DB w11 w10.heap.size 25 ln V_Rl v_Rl v_Rl le := e_w11 ▸ DB.made w10 rfl 25 ln V_Rl v_Rl v_Rl le
    rw [e_w11]
    clear e_w11
    replace za := za.on b
    replace zb := zb.on b
    replace hT := hT.on b
    replace h1 := h1.on b
    replace h2 := h2.on b
    replace Rx := Rx.on b
    replace zx := zx.on b
    replace zy := zy.on b
    replace Ry := Ry.on b
    replace Rp := Rp.on b
    replace zp := zp.on b
    replace Rl := Rl.on b
    replace BW := Below.step BW b
    clear b
    refine (own_any h1 (by omega)).mono ?_
    rintro en w12 ⟨Bo, mo, do_, rfl, Ro, b⟩
    replace za := za.on b
    replace zb := zb.on b
    replace hT := hT.on b
    replace h1 := h1.on b
    replace h2 := h2.on b
    replace Rx := Rx.on b
    replace zx := zx.on b
    replace zy := zy.on b
    replace Ry := Ry.on b
    replace Rp := Rp.on b
    replace zp := zp.on b
    replace Rl := Rl.on b
    replace zl := zl.on b
    replace BW := Below.step BW b
    clear b
    have l_Ro := Ro.le (k := 100000) hb1
    go_wp2_with fail
    refine (rFloor_as Ro (by omega) ef.out).mono ?_
    rintro en w13 ⟨Bm, mm, dm, rfl, Rm, b⟩
    replace za := za.on b
    replace zb := zb.on b
    replace hT := hT.on b
    replace h1 := h1.on b
    replace h2 := h2.on b
    replace Rx := Rx.on b
    replace zx := zx.on b
    replace zy := zy.on b
    replace Ry := Ry.on b
    replace Rp := Rp.on b
    replace zp := zp.on b
    replace Rl := Rl.on b
    replace zl := zl.on b
    replace Ro := Ro.on b
    replace BW := Below.step BW b
    clear b
    clear Ro
    have l_Rm := Rm.le (k := 100000) (Nat.le_trans ml.out (by omega))
    go_wp2_with fail
    obtain ⟨w14, e_w14⟩ : ∃ w', w13.alloc (dob ln Bm mm dm le 34) = w' := ⟨_, rfl⟩
    have b : Below w13.heap.size w13 w14 := e_w14 ▸ below_lit _ _
    have hs_w14 : w14.heap.size = w13.heap.size + 1 := e_w14 ▸ size_lit w13 _ rfl
    have zm : DB w14 w13.heap.size 34 ln Bm mm dm le := e_w14 ▸ DB.made w13 rfl 34 ln Bm mm dm le
    rw [e_w14]
    clear e_w14
    replace za := za.on b
    replace zb := zb.on b
    replace hT := hT.on b
    replace h1 := h1.on b
    replace h2 := h2.on b
    replace Rx := Rx.on b
    replace zx := zx.on b
    replace zy := zy.on b
    replace Ry := Ry.on b
    replace Rp := Rp.on b
    replace zp := zp.on b
    replace Rl := Rl.on b
    replace zl := zl.on b
    replace Rm := Rm.on b
    replace BW := Below.step BW b
    clear b
    refine (dof_as (u : Int) (by omega) (by omega) hT eo.out).mono ?_
    rintro en w15 ⟨V_Rq, v_Rq, rfl, Rq, b⟩
    replace za := za.on b
    replace zb := zb.on b
    replace hT := hT.on b
    replace h1 := h1.on b
    replace h2 := h2.on b
    replace Rx := Rx.on b
    replace zx := zx.on b
    replace zy := zy.on b
    replace Ry := Ry.on b
    replace Rp := Rp.on b
    replace zp := zp.on b
    replace Rl := Rl.on b
    replace zl := zl.on b
    replace Rm := Rm.on b
    replace zm := zm.on b
    replace BW := Below.step BW b
    clear b
    have l_Rq := res_n_le Rq (k := 128) mo_.out
    go_wp2_with fail
    obtain ⟨w16, e_w16⟩ : ∃ w', w15.alloc (dob on V_Rq v_Rq v_Rq oe 25) = w' := ⟨_, rfl⟩
    have b : Below w15.heap.size w15 w16 := e_w16 ▸ below_lit _ _
    have hs_w16 : w16.heap.size = w15.heap.size + 1 := e_w16 ▸ size_lit w15 _ rfl
    have zo : DB w16 w15.heap.size 25 on V_Rq v_Rq v_Rq oe := e_w16 ▸ DB.made w15 rfl 25 on V_Rq v_Rq v_Rq oe
    rw [e_w16]
    clear e_w16
    replace za := za.on b
    replace zb := zb.on b
    replace hT := hT.on b
    replace h1 := h1.on b
    replace h2 := h2.on b
    replace Rx := Rx.on b
    replace zx := zx.on b
    replace zy := zy.on b
    replace Ry := Ry.on b
    replace Rp := Rp.on b
    replace zp := zp.on b
    replace Rl := Rl.on b
    replace zl := zl.on b
    replace Rm := Rm.on b
    replace zm := zm.on b
    replace Rq := Rq.on b
    replace BW := Below.step BW b
    clear b
    skip
    have HS : Hid (∀ w', Below w16.heap.size w16 w' → w'.cell? ⟨w2.heap.size, 0, none⟩ = some (.bool xn) ∧ w'.cell? ⟨w2.heap.size, 1, none⟩ = some (.slice V_Rx v_Rx v_Rx) ∧ w'.cell? ⟨w2.heap.size, 2, none⟩ = some (.int .i64 xe) ∧ w'.cell? ⟨gzy, 0, none⟩ = some (.bool xn) ∧ w'.cell? ⟨gzy, 1, none⟩ = some (.slice Azy nzy czy) ∧ w'.cell? ⟨gzy, 2, none⟩ = some (.int .i64 xe) ∧ w'.cell? ⟨w10.heap.size, 0, none⟩ = some (.bool ln) ∧ w'.cell? ⟨w10.heap.size, 1, none⟩ = some (.slice V_Rl v_Rl v_Rl) ∧ w'.cell? ⟨w10.heap.size, 2, none⟩ = some (.int .i64 le) ∧ w'.cell? ⟨w13.heap.size, 0, none⟩ = some (.bool ln) ∧ w'.cell? ⟨w13.heap.size, 1, none⟩ = some (.slice Bm mm dm) ∧ w'.cell? ⟨w13.heap.size, 2, none⟩ = some (.int .i64 le) ∧ w'.cell? ⟨w15.heap.size, 0, none⟩ = some (.bool on) ∧ w'.cell? ⟨w15.heap.size, 1, none⟩ = some (.slice V_Rq v_Rq v_Rq) ∧ w'.cell? ⟨w15.heap.size, 2, none⟩ = some (.int .i64 oe)) := fun w' hb => by
      obtain ⟨zx0, zx1, zx2, _⟩ := (zx.on hb).cells
      obtain ⟨zy0, zy1, zy2, _⟩ := (zy.on hb).cells
      obtain ⟨zl0, zl1, zl2, _⟩ := (zl.on hb).cells
      obtain ⟨zm0, zm1, zm2, _⟩ := (zm.on hb).cells
      obtain ⟨zo0, zo1, zo2, _⟩ := (zo.on hb).cells
      exact ⟨zx0, zx1, zx2, zy0, zy1, zy2, zl0, zl1, zl2, zm0, zm1, zm2, zo0, zo1, zo2⟩
    have kk : Below w16.heap.size w16 w16.drew := (Below.refl _ _).drew
    have l_Ry := Ry.le (k := 100000) (Nat.le_trans mx.out (by omega))
    replace za := Lib.hid za
    replace zb := Lib.hid zb
    replace hT := Lib.hid hT
    replace h1 := Lib.hid h1
    replace h2 := Lib.hid h2
    replace Rx := Lib.hid Rx
    replace zx := Lib.hid zx
    replace zy := Lib.hid zy
    replace Ry := Lib.hid Ry
    replace Rp := Lib.hid Rp
    replace zp := Lib.hid zp
    replace Rl := Lib.hid Rl
    replace zl := Lib.hid zl
    replace Rm := Lib.hid Rm
    replace zm := Lib.hid zm
    replace Rq := Lib.hid Rq
    replace zo := Lib.hid zo
    replace BW := Lib.hid BW
    go_region_held3 (fun w' => w'.cell? ⟨w2.heap.size, 0, none⟩ = some (.bool xn) ∧ w'.cell? ⟨w2.heap.size, 1, none⟩ = some (.slice V_Rx v_Rx v_Rx) ∧ w'.cell? ⟨w2.heap.size, 2, none⟩ = some (.int .i64 xe) ∧ w'.cell? ⟨gzy, 0, none⟩ = some (.bool xn) ∧ w'.cell? ⟨gzy, 1, none⟩ = some (.slice Azy nzy czy) ∧ w'.cell? ⟨gzy, 2, none⟩ = some (.int .i64 xe) ∧ w'.cell? ⟨w10.heap.size, 0, none⟩ = some (.bool ln) ∧ w'.cell? ⟨w10.heap.size, 1, none⟩ = some (.slice V_Rl v_Rl v_Rl) ∧ w'.cell? ⟨w10.heap.size, 2, none⟩ = some (.int .i64 le) ∧ w'.cell? ⟨w13.heap.size, 0, none⟩ = some (.bool ln) ∧ w'.cell? ⟨w13.heap.size, 1, none⟩ = some (.slice Bm mm dm) ∧ w'.cell? ⟨w13.heap.size, 2, none⟩ = some (.int .i64 le) ∧ w'.cell? ⟨w15.heap.size, 0, none⟩ = some (.bool on) ∧ w'.cell? ⟨w15.heap.size, 1, none⟩ = some (.slice V_Rq v_Rq v_Rq) ∧ w'.cell? ⟨w15.heap.size, 2, none⟩ = some (.int .i64 oe))
      ((refine HS.out _ ?_; with_reducible assumption))
      (first
        | (go_at_call 17
           (with_reducible refine (is_any (Rx.out.on kk) (Ry.out.on kk) (by omega) (by omega)).mono ?_)
           rintro e u9 ⟨rfl, b9⟩
           have kk := Below.step kk b9
           clear b9)
        | (go_at_call 17
           (with_reducible refine (is_any (Rl.out.on kk) (Rm.out.on kk) (by omega) (by omega)).mono ?_)
           rintro e u9 ⟨rfl, b9⟩
           have kk := Below.step kk b9
           clear b9)
        | (go_at_call 28
           refine (rword_any u hu _).mono ?_
           rintro e u7 ⟨B7, m7, d7, rfl, r7, b7⟩
           have kk := Below.step kk b7
           have l7 := r7.le (k := 64) ((blen_le u 64).2 (by omega))
           have r7 := Lib.hid r7
           clear b7)
        | (go_at_call 27
           refine (rplain_any r7.out (by omega) (by omega) (by omega) eo2.out).mono ?_
           rintro e u8 ⟨B8, m8, d8, rfl, r8, b8⟩
           have kk := Below.step kk b8
           have l8 := r8.le (k := 100000) (Nat.le_trans mo_.out (by omega))
           have r8 := Lib.hid r8
           clear b8)
        | (go_at_call 17
           refine (is_any (Rq.out.on kk) r8.out (by omega) (by omega)).mono ?_
           rintro e u6 ⟨rfl, b6⟩
           have kk := Below.step kk b6
           clear b6))
    replace BW := Below.step BW.out kk
    replace za := za.out.on kk
    replace zb := zb.out.on kk
    replace hT := hT.out.on kk
    replace h1 := h1.out.on kk
    replace h2 := h2.out.on kk
    replace Rx := Rx.out.on kk
    replace zx := zx.out.on kk
    replace zy := zy.out.on kk
    replace Ry := Ry.out.on kk
    replace Rp := Rp.out.on kk
    replace zp := zp.out.on kk
    replace Rl := Rl.out.on kk
    replace zl := zl.out.on kk
    replace Rm := Rm.out.on kk
    replace zm := zm.out.on kk
    replace Rq := Rq.out.on kk
    replace zo := zo.out.on kk
    obtain ⟨zac0, zac1, zac2, zaf0, zaf1, zaf2, zal⟩ := za.cells
    go_wp2_with fail
    refine (own_any h1 (by omega)).mono ?_
    rintro en w17 ⟨Bo, mo, do_, rfl, Ro, b⟩
    clear zac0 zac1 zac2 zaf0 zaf1 zaf2 zal
    replace za := za.on b
    replace zb := zb.on b
    replace hT := hT.on b
    replace h1 := h1.on b
    replace h2 := h2.on b
    replace Rx := Rx.on b
    replace zx := zx.on b
    replace zy := zy.on b
    replace Ry := Ry.on b
    replace Rp := Rp.on b
    replace zp := zp.on b
    replace Rl := Rl.on b
    replace zl := zl.on b
    replace Rm := Rm.on b
    replace zm := zm.on b
    replace Rq := Rq.on b
    replace zo := zo.on b
    replace BW := Below.step BW b
    clear b
    have l_Ro := Ro.le (k := 100000) hb1
    go_wp2_with fail
    refine (rmay_any true Ro (by omega) hm.out).mono ?_
    rintro en w18 ⟨rfl, b⟩
    replace za := za.on b
    replace zb := zb.on b
    replace hT := hT.on b
    replace h1 := h1.on b
    replace h2 := h2.on b
    replace Rx := Rx.on b
    replace zx := zx.on b
    replace zy := zy.on b
    replace Ry := Ry.on b
    replace Rp := Rp.on b
    replace zp := zp.on b
    replace Rl := Rl.on b
    replace zl := zl.on b
    replace Rm := Rm.on b
    replace zm := zm.on b
    replace Rq := Rq.on b
    replace zo := zo.on b
    replace Ro := Ro.on b
    replace BW := Below.step BW b
    clear b
    clear Ro
    go_wp2_with fail
    have HS2 : Hid (∀ w', Below w18.heap.size w18 w' → w'.cell? ⟨w5.heap.size, 0, none⟩ = some (.bool pn) ∧ w'.cell? ⟨w5.heap.size, 1, none⟩ = some (.slice V_Rp v_Rp v_Rp) ∧ w'.cell? ⟨w5.heap.size, 2, none⟩ = some (.int .i64 pe) ∧ w'.cell? ⟨w.heap.size, 0, none⟩ = some (.bool na) ∧ w'.cell? ⟨w.heap.size, 1, none⟩ = some (.slice A1 n1 c1) ∧ w'.cell? ⟨w.heap.size, 2, none⟩ = some (.int .i64 ea)) := fun w' hb => by
      obtain ⟨zp0, zp1, zp2, _⟩ := (zp.on hb).cells
      obtain ⟨za0, za1, za2, _⟩ := (za.on hb).cells
      exact ⟨zp0, zp1, zp2, za0, za1, za2⟩
    clear kk
    have kk : Below w18.heap.size w18 w18.drew := (Below.refl _ _).drew
    replace h1 := Lib.hid h1
    replace Rp := Lib.hid Rp
    replace BW := Lib.hid BW
    go_region_held3 (fun w' => w'.cell? ⟨w5.heap.size, 0, none⟩ = some (.bool pn) ∧ w'.cell? ⟨w5.heap.size, 1, none⟩ = some (.slice V_Rp v_Rp v_Rp) ∧ w'.cell? ⟨w5.heap.size, 2, none⟩ = some (.int .i64 pe) ∧ w'.cell? ⟨w.heap.size, 0, none⟩ = some (.bool na) ∧ w'.cell? ⟨w.heap.size, 1, none⟩ = some (.slice A1 n1 c1) ∧ w'.cell? ⟨w.heap.size, 2, none⟩ = some (.int .i64 ea))
      ((refine HS2.out _ ?_; with_reducible assumption))
      (first
        | (go_at_call 12
           refine (own_any (h1.out.on kk) (by omega)).mono ?_
           rintro e t6 ⟨B1, m1, d1, rfl, r1, b6⟩
           have kk := Below.step kk b6
           have l1 := r1.le (k := 100000) hb1
           have r1 := Lib.hid r1
           clear b6)
        | (go_at_call 27
           refine (rplain_any r1.out (by omega) (by omega) (by omega) hpl.out).mono ?_
           rintro e t8 ⟨B8, m8, d8, rfl, r8, b8⟩
           have kk := Below.step kk b8
           have l8 := r8.le (k := 100000) (Nat.le_trans mp.out (by omega))
           have r8 := Lib.hid r8
           clear b8)
        | (go_at_call 17
           refine (is_any (Rp.out.on kk) r8.out (by omega) (by omega)).mono ?_
           rintro e t9 ⟨rfl, b9⟩
           have kk := Below.step kk b9
           clear b9))
    go_wp2_with fail
    go_ret
    exact ⟨rfl, Below.step BW.out kk⟩

set_option maxHeartbeats 4000000 in
set_option maxRecDepth 100000 in
theorem tells_pos_not {A1 A2 : Option Addr} {n1 c1 n2 c2 x y u : Nat} {na nb : Bool} {ea eb at_ : Int} {w : World} (h1 : Arg w A1 n1 c1 x) (h2 : Arg w A2 n2 c2 y) (hT : Tab w) (s1 : n1 ≤ 70) (s2 : n2 ≤ 70) (hu : u < 18446744073709551616) (hu1 : u ≤ 9223372036854775807) (hb1 : blen x ≤ 100000) (hb2 : blen y ≤ 100000)
    {xn ln on lost : Bool} {xx lx ox : Nat} {xe xerr le lerr oe t terr : Int} (mp : Hid (blen 0 ≤ 32 * 128)) (em : Hid (mulS ⟨na, x, ea⟩ ⟨nb, y, eb⟩ = (⟨xn, xx, xe⟩, xerr))) (mx : Hid (blen xx ≤ 32 * 128)) (ep : Hid (plainS ⟨na, x, ea⟩ = (⟨false, 0, 0⟩, 3))) (et : Hid (topS ⟨na, x, ea⟩ = (t, terr))) (ef : Hid (floorS ⟨na, x, ea⟩ at_ = (⟨ln, lx, le⟩, lost, lerr))) (ml : Hid (blen lx ≤ 32 * 128)) (eo : Hid (ofD (u : Int) = ⟨on, ox, oe⟩)) (eo2 : Hid (D.pl ⟨false, u, 0⟩ = ⟨on, ox, oe⟩)) (mo_ : Hid (blen ox ≤ 32 * 128)) (hm : Hid (D.may ⟨na, x, ea⟩ = false)) :
    Calls Tryd.prog 4 #[.agg #[.bool na, .slice A1 n1 c1, .int .i64 ea], .agg #[.bool nb, .slice A2 n2 c2, .int .i64 eb], .int .i64 at_, .int .i64 (u : Int)] w fun e w' => e = .returned (.bool true) ∧ Below w.heap.size w w' := by
  go_enter Tryd.func4, Tryd.ntmps4
  go_wp2_with fail
  obtain ⟨W, hW, za, zb, BW, sW⟩ := frame2 w 25 25 na A1 n1 c1 ea nb A2 n2 c2 eb
  rw [hW]
  clear hW
  replace hT := hT.on BW
  replace h1 := h1.on BW
  replace h2 := h2.on BW
  refine (awake2_any hT).mono ?_
  rintro en w1 ⟨rfl, b⟩
  replace za := za.on b
  replace zb := zb.on b
  replace hT := hT.on b
  replace h1 := h1.on b
  replace h2 := h2.on b
  replace BW := Below.step BW b
  clear b
  obtain ⟨zac0, zac1, zac2, zaf0, zaf1, zaf2, zal⟩ := za.cells
  obtain ⟨zbc0, zbc1, zbc2, zbf0, zbf1, zbf2, zbl⟩ := zb.cells
  go_wp2_with fail
  refine (dmul_as h1 h2 (by omega) (by omega) hT em.out).mono ?_
  rintro en w2 ⟨V_Rx, v_Rx, rfl, Rx, b⟩
  clear zac0 zac1 zac2 zaf0 zaf1 zaf2 zal zbc0 zbc1 zbc2 zbf0 zbf1 zbf2 zbl
  replace za := za.on b
  replace zb := zb.on b
  replace hT := hT.on b
  replace h1 := h1.on b
  replace h2 := h2.on b
  replace BW := Below.step BW b
  clear b
  have l_Rx := res_n_le Rx (k := 128) mx.out
  go_upto_region 6 with fail
  obtain ⟨w3, e_w3⟩ : ∃ w', w2.alloc (dob xn V_Rx v_Rx v_Rx xe 25) = w' := ⟨_, rfl⟩
  have b : Below w2.heap.size w2 w3 := e_w3 ▸ below_lit _ _
  have hs_w3 : w3.heap.size = w2.heap.size + 1 := e_w3 ▸ size_lit w2 _ rfl
  have zx : DB w3 w2.heap.size 25 xn V_Rx v_Rx v_Rx xe := e_w3 ▸ DB.made w2 rfl 25 xn V_Rx v_Rx v_Rx xe
  rw [e_w3]
  clear e_w3
  replace za := za.on b
  replace zb := zb.on b
  replace hT := hT.on b
  replace h1 := h1.on b
  replace h2 := h2.on b
  replace Rx := Rx.on b
  replace BW := Below.step BW b
  clear b
  clear hs_w3
  go_cut [11, 12] (CutR w3 xn xx xe xerr)
  case first =>
    have HS : Hid (∀ w', Below w3.heap.size w3 w' → w'.cell? ⟨w.heap.size, 0, none⟩ = some (.bool na) ∧ w'.cell? ⟨w.heap.size, 1, none⟩ = some (.slice A1 n1 c1) ∧ w'.cell? ⟨w.heap.size, 2, none⟩ = some (.int .i64 ea) ∧ w'.cell? ⟨w.heap.size + 1, 0, none⟩ = some (.bool nb) ∧ w'.cell? ⟨w.heap.size + 1, 1, none⟩ = some (.slice A2 n2 c2) ∧ w'.cell? ⟨w.heap.size + 1, 2, none⟩ = some (.int .i64 eb)) := fun w' hb => by
      obtain ⟨p0, p1, p2, _⟩ := (za.on hb).cells
      obtain ⟨q0, q1, q2, _⟩ := (zb.on hb).cells
      exact ⟨p0, p1, p2, q0, q1, q2⟩
    have kk : Below w3.heap.size w3 w3.drew := (Below.refl _ _).drew
    have kd : Below w3.heap.size w3 (w3.alloc (dob false none 0 0 0 34)).drew := (below_more (Below.refl _ _) _).drew
    have H1 := Lib.hid h1
    have H2 := Lib.hid h2
    clear za zb hT h1 h2 Rx zx
    go_region_held3 (fun w' => w'.cell? ⟨w.heap.size, 0, none⟩ = some (.bool na) ∧ w'.cell? ⟨w.heap.size, 1, none⟩ = some (.slice A1 n1 c1) ∧ w'.cell? ⟨w.heap.size, 2, none⟩ = some (.int .i64 ea) ∧ w'.cell? ⟨w.heap.size + 1, 0, none⟩ = some (.bool nb) ∧ w'.cell? ⟨w.heap.size + 1, 1, none⟩ = some (.slice A2 n2 c2) ∧ w'.cell? ⟨w.heap.size + 1, 2, none⟩ = some (.int .i64 eb))
      ((refine HS.out _ ?_; first | (with_reducible assumption) | (with_reducible exact below_more (by assumption) _) | ((with_reducible refine below_put3 ?_ ?_ _ _ _) <;> first | (with_reducible assumption) | omega)))
      (first
      | (go_at_call_of 12 (Value.agg #[.bool na, .slice A1 n1 c1, .int .i64 ea])
         refine (own_any (H1.out.on (by first | (with_reducible assumption) | (with_reducible exact below_more (by assumption) _))) (by omega)).mono ?_
         rintro e v6 ⟨B1, m1, d1, rfl, r1, b6⟩
         have kk := Below.step (show Below w3.heap.size w3 _ from (by first | (with_reducible assumption) | (with_reducible exact below_more (by assumption) _))) b6
         have hz6 := kk.size
         have r1 := Lib.hid r1
         have b6 := Lib.hid b6)
      | (go_at_call_of 12 (Value.agg #[.bool nb, .slice A2 n2 c2, .int .i64 eb])
         refine (own_any (H2.out.on (by first | (with_reducible assumption) | (with_reducible exact below_more (by assumption) _))) (by omega)).mono ?_
         rintro e v7 ⟨B2, m2, d2, rfl, r2, b7⟩
         have kk := Below.step (show Below w3.heap.size w3 _ from (by first | (with_reducible assumption) | (with_reducible exact below_more (by assumption) _))) b7
         have hz7 := kk.size
         have r1 := Lib.hid (r1.out.on (show Below v6.heap.size v6 v7 by first | (with_reducible exact b7) | (with_reducible exact Below.step (below_lit _ _) b7)))
         have r2 := Lib.hid r2
         have b7 := Lib.hid b7)
      | (go_at_call 20
         refine (rMul_as (r1.out.on (by first | (with_reducible exact Below.refl _ _) | (with_reducible exact below_lit _ _))) (r2.out.on (by first | (with_reducible exact Below.refl _ _) | (with_reducible exact below_lit _ _))) (by rw [r1.out.size]; exact hb1) (by rw [r2.out.size]; exact hb2) em).mono ?_
         rintro e v8 ⟨B3, m3, d3, rfl, r3, b8⟩
         have kk := Below.step (show Below w3.heap.size w3 _ from (by first | (with_reducible assumption) | (with_reducible exact below_more (by assumption) _))) b8
         have hz8 := kk.size
         have r3 := Lib.hid r3
         first | (have zz := (((DB.made_drew w3 rfl 34 false none 0 0 0).on b6.out).on b7.out).on b8; obtain ⟨p0, p1, p2, g0, g1, g2, _⟩ := zz.cells; have zz := Lib.hid zz) | (have zz := ((DB.made v6 rfl 34 false none 0 0 0).on b7.out).on b8; obtain ⟨p0, p1, p2, g0, g1, g2, _⟩ := zz.cells; have zz := Lib.hid zz) | (have zz := (DB.made v7 rfl 34 false none 0 0 0).on b8; obtain ⟨p0, p1, p2, g0, g1, g2, _⟩ := zz.cells; have zz := Lib.hid zz) | skip
         clear b8))
    all_goals go_wp2_with fail
    all_goals go_meet
    all_goals (first | (exact ⟨_, B3, m3, d3, rfl, rfl, zz.out.put_d xn B3 m3 d3 xe, zz.out.br tR r3.out _ _ _, below_put3 kk (by omega) _ _ _⟩) | (exact ⟨_, B3, m3, d3, rfl, rfl, DB.made v8 rfl 34 xn B3 m3 d3 xe, r3.out.on (below_lit _ _), below_more kk _⟩))
  case rest =>
    obtain ⟨gzy, Azy, nzy, czy, rfl, rfl, zy, Ry, b⟩ := hcut
    obtain ⟨w4, rfl⟩ : ∃ w4 : World, w4 = wc := ⟨_, rfl⟩
    replace za := za.on b
    replace zb := zb.on b
    replace hT := hT.on b
    replace h1 := h1.on b
    replace h2 := h2.on b
    replace Rx := Rx.on b
    replace zx := zx.on b
    replace BW := Below.step BW b
    clear b
    obtain ⟨zac0, zac1, zac2, zaf0, zaf1, zaf2, zal⟩ := za.cells
    go_wp2_with fail
    refine (dplain_as h1 (by omega) hT ep.out).mono ?_
    rintro en w5 ⟨V_Rp, v_Rp, rfl, Rp, b⟩
    clear zac0 zac1 zac2 zaf0 zaf1 zaf2 zal
    replace za := za.on b
    replace zb := zb.on b
    replace hT := hT.on b
    replace h1 := h1.on b
    replace h2 := h2.on b
    replace Rx := Rx.on b
    replace zx := zx.on b
    replace zy := zy.on b
    replace Ry := Ry.on b
    replace BW := Below.step BW b
    clear b
    have l_Rp := res_n_le Rp (k := 128) mp.out
    obtain ⟨zac0, zac1, zac2, zaf0, zaf1, zaf2, zal⟩ := za.cells
    go_wp2_with fail
    clear zac0 zac1 zac2 zaf0 zaf1 zaf2 zal
    obtain ⟨w6, e_w6⟩ : ∃ w', w5.alloc (dob false V_Rp v_Rp v_Rp 0 25) = w' := ⟨_, rfl⟩
    have b : Below w5.heap.size w5 w6 := e_w6 ▸ below_lit _ _
    have hs_w6 : w6.heap.size = w5.heap.size + 1 := e_w6 ▸ size_lit w5 _ rfl
    have zp : DB w6 w5.heap.size 25 false V_Rp v_Rp v_Rp 0 := e_w6 ▸ DB.made w5 rfl 25 false V_Rp v_Rp v_Rp 0
    rw [e_w6]
    clear e_w6
    replace za := za.on b
    replace zb := zb.on b
    replace hT := hT.on b
    replace h1 := h1.on b
    replace h2 := h2.on b
    replace Rx := Rx.on b
    replace zx := zx.on b
    replace zy := zy.on b
    replace Ry := Ry.on b
    replace Rp := Rp.on b
    replace BW := Below.step BW b
    clear b
    refine (dtop_as h1 (by omega) hT et.out).mono ?_
    rintro en w7 ⟨rfl, b⟩
    replace za := za.on b
    replace zb := zb.on b
    replace hT := hT.on b
    replace h1 := h1.on b
    replace h2 := h2.on b
    replace Rx := Rx.on b
    replace zx := zx.on b
    replace zy := zy.on b
    replace Ry := Ry.on b
    replace Rp := Rp.on b
    replace zp := zp.on b
    replace BW := Below.step BW b
    clear b
    obtain ⟨zac0, zac1, zac2, zaf0, zaf1, zaf2, zal⟩ := za.cells
    go_wp2_with fail
    refine (own_any h1 (by omega)).mono ?_
    rintro en w8 ⟨Bo, mo, do_, rfl, Ro, b⟩
    clear zac0 zac1 zac2 zaf0 zaf1 zaf2 zal
    replace za := za.on b
    replace zb := zb.on b
    replace hT := hT.on b
    replace h1 := h1.on b
    replace h2 := h2.on b
    replace Rx := Rx.on b
    replace zx := zx.on b
    replace zy := zy.on b
    replace Ry := Ry.on b
    replace Rp := Rp.on b
    replace zp := zp.on b
    replace BW := Below.step BW b
    clear b
    have l_Ro := Ro.le (k := 100000) hb1
    go_wp2_with fail
    refine (rtop_as Ro (by omega) et.out).mono ?_
    rintro en w9 ⟨rfl, b⟩
    replace za := za.on b
    replace zb := zb.on b
    replace hT := hT.on b
    replace h1 := h1.on b
    replace h2 := h2.on b
    replace Rx := Rx.on b
    replace zx := zx.on b
    replace zy := zy.on b
    replace Ry := Ry.on b
    replace Rp := Rp.on b
    replace zp := zp.on b
    replace Ro := Ro.on b
    replace BW := Below.step BW b
    clear b
    clear Ro
    obtain ⟨zac0, zac1, zac2, zaf0, zaf1, zaf2, zal⟩ := za.cells
    go_wp2_with fail
    refine (dfloor_as h1 (by omega) hT ef.out).mono ?_
    rintro en w10 ⟨V_Rl, v_Rl, rfl, Rl, b⟩
    clear zac0 zac1 zac2 zaf0 zaf1 zaf2 zal
    replace za := za.on b
    replace zb := zb.on b
    replace hT := hT.on b
    replace h1 := h1.on b
    replace h2 := h2.on b
    replace Rx := Rx.on b
    replace zx := zx.on b
    replace zy := zy.on b
    replace Ry := Ry.on b
    replace Rp := Rp.on b
    replace zp := zp.on b
    replace BW := Below.step BW b
    clear b
    have l_Rl := res_n_le Rl (k := 128) ml.out
    obtain ⟨zac0, zac1, zac2, zaf0, zaf1, zaf2, zal⟩ := za.cells
    go_wp2_with fail
    clear zac0 zac1 zac2 zaf0 zaf1 zaf2 zal
    obtain ⟨w11, e_w11⟩ : ∃ w', w10.alloc (dob ln V_Rl v_Rl v_Rl le 25) = w' := ⟨_, rfl⟩
    have b : Below w10.heap.size w10 w11 := e_w11 ▸ below_lit _ _
    have hs_w11 : w11.heap.size = w10.heap.size + 1 := e_w11 ▸ size_lit w10 _ rfl
    have zl : DB w11 w10.heap.size 25 ln V_Rl v_Rl v_Rl le := e_w11 ▸ DB.made w10 rfl 25 ln V_Rl v_Rl v_Rl le
    rw [e_w11]
    clear e_w11
    replace za := za.on b
    replace zb := zb.on b
    replace hT := hT.on b
    replace h1 := h1.on b
    replace h2 := h2.on b
    replace Rx := Rx.on b
    replace zx := zx.on b
    replace zy := zy.on b
    replace Ry := Ry.on b
    replace Rp := Rp.on b
    replace zp := zp.on b
    replace Rl := Rl.on b
    replace BW := Below.step BW b
    clear b
    refine (own_any h1 (by omega)).mono ?_
    rintro en w12 ⟨Bo, mo, do_, rfl, Ro, b⟩
    replace za := za.on b
    replace zb := zb.on b
    replace hT := hT.on b
    replace h1 := h1.on b
    replace h2 := h2.on b
    replace Rx := Rx.on b
    replace zx := zx.on b
    replace zy := zy.on b
    replace Ry := Ry.on b
    replace Rp := Rp.on b
    replace zp := zp.on b
    replace Rl := Rl.on b
    replace zl := zl.on b
    replace BW := Below.step BW b
    clear b
    have l_Ro := Ro.le (k := 100000) hb1
    go_wp2_with fail
    refine (rFloor_as Ro (by omega) ef.out).mono ?_
    rintro en w13 ⟨Bm, mm, dm, rfl, Rm, b⟩
    replace za := za.on b
    replace zb := zb.on b
    replace hT := hT.on b
    replace h1 := h1.on b
    replace h2 := h2.on b
    replace Rx := Rx.on b
    replace zx := zx.on b
    replace zy := zy.on b
    replace Ry := Ry.on b
    replace Rp := Rp.on b
    replace zp := zp.on b
    replace Rl := Rl.on b
    replace zl := zl.on b
    replace Ro := Ro.on b
    replace BW := Below.step BW b
    clear b
    clear Ro
    have l_Rm := Rm.le (k := 100000) (Nat.le_trans ml.out (by omega))
    go_wp2_with fail
    obtain ⟨w14, e_w14⟩ : ∃ w', w13.alloc (dob ln Bm mm dm le 34) = w' := ⟨_, rfl⟩
    have b : Below w13.heap.size w13 w14 := e_w14 ▸ below_lit _ _
    have hs_w14 : w14.heap.size = w13.heap.size + 1 := e_w14 ▸ size_lit w13 _ rfl
    have zm : DB w14 w13.heap.size 34 ln Bm mm dm le := e_w14 ▸ DB.made w13 rfl 34 ln Bm mm dm le
    rw [e_w14]
    clear e_w14
    replace za := za.on b
    replace zb := zb.on b
    replace hT := hT.on b
    replace h1 := h1.on b
    replace h2 := h2.on b
    replace Rx := Rx.on b
    replace zx := zx.on b
    replace zy := zy.on b
    replace Ry := Ry.on b
    replace Rp := Rp.on b
    replace zp := zp.on b
    replace Rl := Rl.on b
    replace zl := zl.on b
    replace Rm := Rm.on b
    replace BW := Below.step BW b
    clear b
    refine (dof_as (u : Int) (by omega) (by omega) hT eo.out).mono ?_
    rintro en w15 ⟨V_Rq, v_Rq, rfl, Rq, b⟩
    replace za := za.on b
    replace zb := zb.on b
    replace hT := hT.on b
    replace h1 := h1.on b
    replace h2 := h2.on b
    replace Rx := Rx.on b
    replace zx := zx.on b
    replace zy := zy.on b
    replace Ry := Ry.on b
    replace Rp := Rp.on b
    replace zp := zp.on b
    replace Rl := Rl.on b
    replace zl := zl.on b
    replace Rm := Rm.on b
    replace zm := zm.on b
    replace BW := Below.step BW b
    clear b
    have l_Rq := res_n_le Rq (k := 128) mo_.out
    go_wp2_with fail
    obtain ⟨w16, e_w16⟩ : ∃ w', w15.alloc (dob on V_Rq v_Rq v_Rq oe 25) = w' := ⟨_, rfl⟩
    have b : Below w15.heap.size w15 w16 := e_w16 ▸ below_lit _ _
    have hs_w16 : w16.heap.size = w15.heap.size + 1 := e_w16 ▸ size_lit w15 _ rfl
    have zo : DB w16 w15.heap.size 25 on V_Rq v_Rq v_Rq oe := e_w16 ▸ DB.made w15 rfl 25 on V_Rq v_Rq v_Rq oe
    rw [e_w16]
    clear e_w16
    replace za := za.on b
    replace zb := zb.on b
    replace hT := hT.on b
    replace h1 := h1.on b
    replace h2 := h2.on b
    replace Rx := Rx.on b
    replace zx := zx.on b
    replace zy := zy.on b
    replace Ry := Ry.on b
    replace Rp := Rp.on b
    replace zp := zp.on b
    replace Rl := Rl.on b
    replace zl := zl.on b
    replace Rm := Rm.on b
    replace zm := zm.on b
    replace Rq := Rq.on b
    replace BW := Below.step BW b
    clear b
    skip
    have HS : Hid (∀ w', Below w16.heap.size w16 w' → w'.cell? ⟨w2.heap.size, 0, none⟩ = some (.bool xn) ∧ w'.cell? ⟨w2.heap.size, 1, none⟩ = some (.slice V_Rx v_Rx v_Rx) ∧ w'.cell? ⟨w2.heap.size, 2, none⟩ = some (.int .i64 xe) ∧ w'.cell? ⟨gzy, 0, none⟩ = some (.bool xn) ∧ w'.cell? ⟨gzy, 1, none⟩ = some (.slice Azy nzy czy) ∧ w'.cell? ⟨gzy, 2, none⟩ = some (.int .i64 xe) ∧ w'.cell? ⟨w10.heap.size, 0, none⟩ = some (.bool ln) ∧ w'.cell? ⟨w10.heap.size, 1, none⟩ = some (.slice V_Rl v_Rl v_Rl) ∧ w'.cell? ⟨w10.heap.size, 2, none⟩ = some (.int .i64 le) ∧ w'.cell? ⟨w13.heap.size, 0, none⟩ = some (.bool ln) ∧ w'.cell? ⟨w13.heap.size, 1, none⟩ = some (.slice Bm mm dm) ∧ w'.cell? ⟨w13.heap.size, 2, none⟩ = some (.int .i64 le) ∧ w'.cell? ⟨w15.heap.size, 0, none⟩ = some (.bool on) ∧ w'.cell? ⟨w15.heap.size, 1, none⟩ = some (.slice V_Rq v_Rq v_Rq) ∧ w'.cell? ⟨w15.heap.size, 2, none⟩ = some (.int .i64 oe)) := fun w' hb => by
      obtain ⟨zx0, zx1, zx2, _⟩ := (zx.on hb).cells
      obtain ⟨zy0, zy1, zy2, _⟩ := (zy.on hb).cells
      obtain ⟨zl0, zl1, zl2, _⟩ := (zl.on hb).cells
      obtain ⟨zm0, zm1, zm2, _⟩ := (zm.on hb).cells
      obtain ⟨zo0, zo1, zo2, _⟩ := (zo.on hb).cells
      exact ⟨zx0, zx1, zx2, zy0, zy1, zy2, zl0, zl1, zl2, zm0, zm1, zm2, zo0, zo1, zo2⟩
    have kk : Below w16.heap.size w16 w16.drew := (Below.refl _ _).drew
    have l_Ry := Ry.le (k := 100000) (Nat.le_trans mx.out (by omega))
    replace za := Lib.hid za
    replace zb := Lib.hid zb
    replace hT := Lib.hid hT
    replace h1 := Lib.hid h1
    replace h2 := Lib.hid h2
    replace Rx := Lib.hid Rx
    replace zx := Lib.hid zx
    replace zy := Lib.hid zy
    replace Ry := Lib.hid Ry
    replace Rp := Lib.hid Rp
    replace zp := Lib.hid zp
    replace Rl := Lib.hid Rl
    replace zl := Lib.hid zl
    replace Rm := Lib.hid Rm
    replace zm := Lib.hid zm
    replace Rq := Lib.hid Rq
    replace zo := Lib.hid zo
    replace BW := Lib.hid BW
    go_region_held3 (fun w' => w'.cell? ⟨w2.heap.size, 0, none⟩ = some (.bool xn) ∧ w'.cell? ⟨w2.heap.size, 1, none⟩ = some (.slice V_Rx v_Rx v_Rx) ∧ w'.cell? ⟨w2.heap.size, 2, none⟩ = some (.int .i64 xe) ∧ w'.cell? ⟨gzy, 0, none⟩ = some (.bool xn) ∧ w'.cell? ⟨gzy, 1, none⟩ = some (.slice Azy nzy czy) ∧ w'.cell? ⟨gzy, 2, none⟩ = some (.int .i64 xe) ∧ w'.cell? ⟨w10.heap.size, 0, none⟩ = some (.bool ln) ∧ w'.cell? ⟨w10.heap.size, 1, none⟩ = some (.slice V_Rl v_Rl v_Rl) ∧ w'.cell? ⟨w10.heap.size, 2, none⟩ = some (.int .i64 le) ∧ w'.cell? ⟨w13.heap.size, 0, none⟩ = some (.bool ln) ∧ w'.cell? ⟨w13.heap.size, 1, none⟩ = some (.slice Bm mm dm) ∧ w'.cell? ⟨w13.heap.size, 2, none⟩ = some (.int .i64 le) ∧ w'.cell? ⟨w15.heap.size, 0, none⟩ = some (.bool on) ∧ w'.cell? ⟨w15.heap.size, 1, none⟩ = some (.slice V_Rq v_Rq v_Rq) ∧ w'.cell? ⟨w15.heap.size, 2, none⟩ = some (.int .i64 oe))
      ((refine HS.out _ ?_; with_reducible assumption))
      (first
        | (go_at_call 17
           (with_reducible refine (is_any (Rx.out.on kk) (Ry.out.on kk) (by omega) (by omega)).mono ?_)
           rintro e u9 ⟨rfl, b9⟩
           have kk := Below.step kk b9
           clear b9)
        | (go_at_call 17
           (with_reducible refine (is_any (Rl.out.on kk) (Rm.out.on kk) (by omega) (by omega)).mono ?_)
           rintro e u9 ⟨rfl, b9⟩
           have kk := Below.step kk b9
           clear b9)
        | (go_at_call 28
           refine (rword_any u hu _).mono ?_
           rintro e u7 ⟨B7, m7, d7, rfl, r7, b7⟩
           have kk := Below.step kk b7
           have l7 := r7.le (k := 64) ((blen_le u 64).2 (by omega))
           have r7 := Lib.hid r7
           clear b7)
        | (go_at_call 27
           refine (rplain_any r7.out (by omega) (by omega) (by omega) eo2.out).mono ?_
           rintro e u8 ⟨B8, m8, d8, rfl, r8, b8⟩
           have kk := Below.step kk b8
           have l8 := r8.le (k := 100000) (Nat.le_trans mo_.out (by omega))
           have r8 := Lib.hid r8
           clear b8)
        | (go_at_call 17
           refine (is_any (Rq.out.on kk) r8.out (by omega) (by omega)).mono ?_
           rintro e u6 ⟨rfl, b6⟩
           have kk := Below.step kk b6
           clear b6))
    replace BW := Below.step BW.out kk
    replace za := za.out.on kk
    replace zb := zb.out.on kk
    replace hT := hT.out.on kk
    replace h1 := h1.out.on kk
    replace h2 := h2.out.on kk
    replace Rx := Rx.out.on kk
    replace zx := zx.out.on kk
    replace zy := zy.out.on kk
    replace Ry := Ry.out.on kk
    replace Rp := Rp.out.on kk
    replace zp := zp.out.on kk
    replace Rl := Rl.out.on kk
    replace zl := zl.out.on kk
    replace Rm := Rm.out.on kk
    replace zm := zm.out.on kk
    replace Rq := Rq.out.on kk
    replace zo := zo.out.on kk
    obtain ⟨zac0, zac1, zac2, zaf0, zaf1, zaf2, zal⟩ := za.cells
    go_wp2_with fail
    refine (own_any h1 (by omega)).mono ?_
    rintro en w17 ⟨Bo, mo, do_, rfl, Ro, b⟩
    clear zac0 zac1 zac2 zaf0 zaf1 zaf2 zal
    replace za := za.on b
    replace zb := zb.on b
    replace hT := hT.on b
    replace h1 := h1.on b
    replace h2 := h2.on b
    replace Rx := Rx.on b
    replace zx := zx.on b
    replace zy := zy.on b
    replace Ry := Ry.on b
    replace Rp := Rp.on b
    replace zp := zp.on b
    replace Rl := Rl.on b
    replace zl := zl.on b
    replace Rm := Rm.on b
    replace zm := zm.on b
    replace Rq := Rq.on b
    replace zo := zo.on b
    replace BW := Below.step BW b
    clear b
    have l_Ro := Ro.le (k := 100000) hb1
    go_wp2_with fail
    refine (rmay_any false Ro (by omega) hm.out).mono ?_
    rintro en w18 ⟨rfl, b⟩
    replace za := za.on b
    replace zb := zb.on b
    replace hT := hT.on b
    replace h1 := h1.on b
    replace h2 := h2.on b
    replace Rx := Rx.on b
    replace zx := zx.on b
    replace zy := zy.on b
    replace Ry := Ry.on b
    replace Rp := Rp.on b
    replace zp := zp.on b
    replace Rl := Rl.on b
    replace zl := zl.on b
    replace Rm := Rm.on b
    replace zm := zm.on b
    replace Rq := Rq.on b
    replace zo := zo.on b
    replace Ro := Ro.on b
    replace BW := Below.step BW b
    clear b
    obtain rfl : v_Rp = 0 := Rp.zero_n
    obtain ⟨zpc0, zpc1, zpc2, zpf0, zpf1, zpf2, zpl⟩ := zp.cells
    go_wp2_with fail
    go_ret
    exact ⟨rfl, BW⟩

set_option maxHeartbeats 4000000 in
set_option maxRecDepth 100000 in
theorem tells_neg_may {A1 A2 : Option Addr} {n1 c1 n2 c2 x y u : Nat} {na nb : Bool} {ea eb at_ : Int} {w : World} (h1 : Arg w A1 n1 c1 x) (h2 : Arg w A2 n2 c2 y) (hT : Tab w) (s1 : n1 ≤ 70) (s2 : n2 ≤ 70) (hu : u < 18446744073709551616) (hu0 : 0 < u) (hu1 : u ≤ 9223372036854775808) (hb1 : blen x ≤ 100000) (hb2 : blen y ≤ 100000)
    {xn ln on lost : Bool} {xx lx ox : Nat} {xe xerr le lerr oe t terr : Int} {pn : Bool} {px : Nat} {pe : Int} (hpl : Hid (D.pl ⟨na, x, ea⟩ = ⟨pn, px, pe⟩)) (mp : Hid (blen px ≤ 32 * 128)) (ea1 : -8192 ≤ ea) (ea2 : ea ≤ 8192) (em : Hid (mulS ⟨na, x, ea⟩ ⟨nb, y, eb⟩ = (⟨xn, xx, xe⟩, xerr))) (mx : Hid (blen xx ≤ 32 * 128)) (ep : Hid (plainS ⟨na, x, ea⟩ = (⟨pn, px, pe⟩, 0))) (et : Hid (topS ⟨na, x, ea⟩ = (t, terr))) (ef : Hid (floorS ⟨na, x, ea⟩ at_ = (⟨ln, lx, le⟩, lost, lerr))) (ml : Hid (blen lx ≤ 32 * 128)) (eo : Hid (ofD (-(u : Int)) = ⟨on, ox, oe⟩)) (eo2 : Hid (D.pl ⟨true, u, 0⟩ = ⟨on, ox, oe⟩)) (mo_ : Hid (blen ox ≤ 32 * 128)) (hm : Hid (D.may ⟨na, x, ea⟩ = true)) :
    Calls Tryd.prog 4 #[.agg #[.bool na, .slice A1 n1 c1, .int .i64 ea], .agg #[.bool nb, .slice A2 n2 c2, .int .i64 eb], .int .i64 at_, .int .i64 (-(u : Int))] w fun e w' => e = .returned (.bool true) ∧ Below w.heap.size w w' := by
  go_enter Tryd.func4, Tryd.ntmps4
  go_wp2_with fail
  obtain ⟨W, hW, za, zb, BW, sW⟩ := frame2 w 25 25 na A1 n1 c1 ea nb A2 n2 c2 eb
  rw [hW]
  clear hW
  replace hT := hT.on BW
  replace h1 := h1.on BW
  replace h2 := h2.on BW
  refine (awake2_any hT).mono ?_
  rintro en w1 ⟨rfl, b⟩
  replace za := za.on b
  replace zb := zb.on b
  replace hT := hT.on b
  replace h1 := h1.on b
  replace h2 := h2.on b
  replace BW := Below.step BW b
  clear b
  obtain ⟨zac0, zac1, zac2, zaf0, zaf1, zaf2, zal⟩ := za.cells
  obtain ⟨zbc0, zbc1, zbc2, zbf0, zbf1, zbf2, zbl⟩ := zb.cells
  go_wp2_with fail
  refine (dmul_as h1 h2 (by omega) (by omega) hT em.out).mono ?_
  rintro en w2 ⟨V_Rx, v_Rx, rfl, Rx, b⟩
  clear zac0 zac1 zac2 zaf0 zaf1 zaf2 zal zbc0 zbc1 zbc2 zbf0 zbf1 zbf2 zbl
  replace za := za.on b
  replace zb := zb.on b
  replace hT := hT.on b
  replace h1 := h1.on b
  replace h2 := h2.on b
  replace BW := Below.step BW b
  clear b
  have l_Rx := res_n_le Rx (k := 128) mx.out
  go_upto_region 6 with fail
  obtain ⟨w3, e_w3⟩ : ∃ w', w2.alloc (dob xn V_Rx v_Rx v_Rx xe 25) = w' := ⟨_, rfl⟩
  have b : Below w2.heap.size w2 w3 := e_w3 ▸ below_lit _ _
  have hs_w3 : w3.heap.size = w2.heap.size + 1 := e_w3 ▸ size_lit w2 _ rfl
  have zx : DB w3 w2.heap.size 25 xn V_Rx v_Rx v_Rx xe := e_w3 ▸ DB.made w2 rfl 25 xn V_Rx v_Rx v_Rx xe
  rw [e_w3]
  clear e_w3
  replace za := za.on b
  replace zb := zb.on b
  replace hT := hT.on b
  replace h1 := h1.on b
  replace h2 := h2.on b
  replace Rx := Rx.on b
  replace BW := Below.step BW b
  clear b
  clear hs_w3
  go_cut [11, 12] (CutR w3 xn xx xe xerr)
  case first =>
    have HS : Hid (∀ w', Below w3.heap.size w3 w' → w'.cell? ⟨w.heap.size, 0, none⟩ = some (.bool na) ∧ w'.cell? ⟨w.heap.size, 1, none⟩ = some (.slice A1 n1 c1) ∧ w'.cell? ⟨w.heap.size, 2, none⟩ = some (.int .i64 ea) ∧ w'.cell? ⟨w.heap.size + 1, 0, none⟩ = some (.bool nb) ∧ w'.cell? ⟨w.heap.size + 1, 1, none⟩ = some (.slice A2 n2 c2) ∧ w'.cell? ⟨w.heap.size + 1, 2, none⟩ = some (.int .i64 eb)) := fun w' hb => by
      obtain ⟨p0, p1, p2, _⟩ := (za.on hb).cells
      obtain ⟨q0, q1, q2, _⟩ := (zb.on hb).cells
      exact ⟨p0, p1, p2, q0, q1, q2⟩
    have kk : Below w3.heap.size w3 w3.drew := (Below.refl _ _).drew
    have kd : Below w3.heap.size w3 (w3.alloc (dob false none 0 0 0 34)).drew := (below_more (Below.refl _ _) _).drew
    have H1 := Lib.hid h1
    have H2 := Lib.hid h2
    clear za zb hT h1 h2 Rx zx
    go_region_held3 (fun w' => w'.cell? ⟨w.heap.size, 0, none⟩ = some (.bool na) ∧ w'.cell? ⟨w.heap.size, 1, none⟩ = some (.slice A1 n1 c1) ∧ w'.cell? ⟨w.heap.size, 2, none⟩ = some (.int .i64 ea) ∧ w'.cell? ⟨w.heap.size + 1, 0, none⟩ = some (.bool nb) ∧ w'.cell? ⟨w.heap.size + 1, 1, none⟩ = some (.slice A2 n2 c2) ∧ w'.cell? ⟨w.heap.size + 1, 2, none⟩ = some (.int .i64 eb))
      ((refine HS.out _ ?_; first | (with_reducible assumption) | (with_reducible exact below_more (by assumption) _) | ((with_reducible refine below_put3 ?_ ?_ _ _ _) <;> first | (with_reducible assumption) | omega)))
      (first
      | (go_at_call_of 12 (Value.agg #[.bool na, .slice A1 n1 c1, .int .i64 ea])
         refine (own_any (H1.out.on (by first | (with_reducible assumption) | (with_reducible exact below_more (by assumption) _))) (by omega)).mono ?_
         rintro e v6 ⟨B1, m1, d1, rfl, r1, b6⟩
         have kk := Below.step (show Below w3.heap.size w3 _ from (by first | (with_reducible assumption) | (with_reducible exact below_more (by assumption) _))) b6
         have hz6 := kk.size
         have r1 := Lib.hid r1
         have b6 := Lib.hid b6)
      | (go_at_call_of 12 (Value.agg #[.bool nb, .slice A2 n2 c2, .int .i64 eb])
         refine (own_any (H2.out.on (by first | (with_reducible assumption) | (with_reducible exact below_more (by assumption) _))) (by omega)).mono ?_
         rintro e v7 ⟨B2, m2, d2, rfl, r2, b7⟩
         have kk := Below.step (show Below w3.heap.size w3 _ from (by first | (with_reducible assumption) | (with_reducible exact below_more (by assumption) _))) b7
         have hz7 := kk.size
         have r1 := Lib.hid (r1.out.on (show Below v6.heap.size v6 v7 by first | (with_reducible exact b7) | (with_reducible exact Below.step (below_lit _ _) b7)))
         have r2 := Lib.hid r2
         have b7 := Lib.hid b7)
      | (go_at_call 20
         refine (rMul_as (r1.out.on (by first | (with_reducible exact Below.refl _ _) | (with_reducible exact below_lit _ _))) (r2.out.on (by first | (with_reducible exact Below.refl _ _) | (with_reducible exact below_lit _ _))) (by rw [r1.out.size]; exact hb1) (by rw [r2.out.size]; exact hb2) em).mono ?_
         rintro e v8 ⟨B3, m3, d3, rfl, r3, b8⟩
         have kk := Below.step (show Below w3.heap.size w3 _ from (by first | (with_reducible assumption) | (with_reducible exact below_more (by assumption) _))) b8
         have hz8 := kk.size
         have r3 := Lib.hid r3
         first | (have zz := (((DB.made_drew w3 rfl 34 false none 0 0 0).on b6.out).on b7.out).on b8; obtain ⟨p0, p1, p2, g0, g1, g2, _⟩ := zz.cells; have zz := Lib.hid zz) | (have zz := ((DB.made v6 rfl 34 false none 0 0 0).on b7.out).on b8; obtain ⟨p0, p1, p2, g0, g1, g2, _⟩ := zz.cells; have zz := Lib.hid zz) | (have zz := (DB.made v7 rfl 34 false none 0 0 0).on b8; obtain ⟨p0, p1, p2, g0, g1, g2, _⟩ := zz.cells; have zz := Lib.hid zz) | skip
         clear b8))
    all_goals go_wp2_with fail
    all_goals go_meet
    all_goals (first | (exact ⟨_, B3, m3, d3, rfl, rfl, zz.out.put_d xn B3 m3 d3 xe, zz.out.br tR r3.out _ _ _, below_put3 kk (by omega) _ _ _⟩) | (exact ⟨_, B3, m3, d3, rfl, rfl, DB.made v8 rfl 34 xn B3 m3 d3 xe, r3.out.on (below_lit _ _), below_more kk _⟩))
  case rest =>
    obtain ⟨gzy, Azy, nzy, czy, rfl, rfl, zy, Ry, b⟩ := hcut
    obtain ⟨w4, rfl⟩ : ∃ w4 : World, w4 = wc := ⟨_, rfl⟩
    replace za := za.on b
    replace zb := zb.on b
    replace hT := hT.on b
    replace h1 := h1.on b
    replace h2 := h2.on b
    replace Rx := Rx.on b
    replace zx := zx.on b
    replace BW := Below.step BW b
    clear b
    obtain ⟨zac0, zac1, zac2, zaf0, zaf1, zaf2, zal⟩ := za.cells
    go_wp2_with fail
    refine (dplain_as h1 (by omega) hT ep.out).mono ?_
    rintro en w5 ⟨V_Rp, v_Rp, rfl, Rp, b⟩
    clear zac0 zac1 zac2 zaf0 zaf1 zaf2 zal
    replace za := za.on b
    replace zb := zb.on b
    replace hT := hT.on b
    replace h1 := h1.on b
    replace h2 := h2.on b
    replace Rx := Rx.on b
    replace zx := zx.on b
    replace zy := zy.on b
    replace Ry := Ry.on b
    replace BW := Below.step BW b
    clear b
    have l_Rp := res_n_le Rp (k := 128) mp.out
    obtain ⟨zac0, zac1, zac2, zaf0, zaf1, zaf2, zal⟩ := za.cells
    go_wp2_with fail
    clear zac0 zac1 zac2 zaf0 zaf1 zaf2 zal
    obtain ⟨w6, e_w6⟩ : ∃ w', w5.alloc (dob pn V_Rp v_Rp v_Rp pe 25) = w' := ⟨_, rfl⟩
    have b : Below w5.heap.size w5 w6 := e_w6 ▸ below_lit _ _
    have hs_w6 : w6.heap.size = w5.heap.size + 1 := e_w6 ▸ size_lit w5 _ rfl
    have zp : DB w6 w5.heap.size 25 pn V_Rp v_Rp v_Rp pe := e_w6 ▸ DB.made w5 rfl 25 pn V_Rp v_Rp v_Rp pe
    rw [e_w6]
    clear e_w6
    replace za := za.on b
    replace zb := zb.on b
    replace hT := hT.on b
    replace h1 := h1.on b
    replace h2 := h2.on b
    replace Rx := Rx.on b
    replace zx := zx.on b
    replace zy := zy.on b
    replace Ry := Ry.on b
    replace Rp := Rp.on b
    replace BW := Below.step BW b
    clear b
    refine (dtop_as h1 (by omega) hT et.out).mono ?_
    rintro en w7 ⟨rfl, b⟩
    replace za := za.on b
    replace zb := zb.on b
    replace hT := hT.on b
    replace h1 := h1.on b
    replace h2 := h2.on b
    replace Rx := Rx.on b
    replace zx := zx.on b
    replace zy := zy.on b
    replace Ry := Ry.on b
    replace Rp := Rp.on b
    replace zp := zp.on b
    replace BW := Below.step BW b
    clear b
    obtain ⟨zac0, zac1, zac2, zaf0, zaf1, zaf2, zal⟩ := za.cells
    go_wp2_with fail
    refine (own_any h1 (by omega)).mono ?_
    rintro en w8 ⟨Bo, mo, do_, rfl, Ro, b⟩
    clear zac0 zac1 zac2 zaf0 zaf1 zaf2 zal
    replace za := za.on b
    replace zb := zb.on b
    replace hT := hT.on b
    replace h1 := h1.on b
    replace h2 := h2.on b
    replace Rx := Rx.on b
    replace zx := zx.on b
    replace zy := zy.on b
    replace Ry := Ry.on b
    replace Rp := Rp.on b
    replace zp := zp.on b
    replace BW := Below.step BW b
    clear b
    have l_Ro := Ro.le (k := 100000) hb1
    go_wp2_with fail
    refine (rtop_as Ro (by omega) et.out).mono ?_
    rintro en w9 ⟨rfl, b⟩
    replace za := za.on b
    replace zb := zb.on b
    replace hT := hT.on b
    replace h1 := h1.on b
    replace h2 := h2.on b
    replace Rx := Rx.on b
    replace zx := zx.on b
    replace zy := zy.on b
    replace Ry := Ry.on b
    replace Rp := Rp.on b
    replace zp := zp.on b
    replace Ro := Ro.on b
    replace BW := Below.step BW b
    clear b
    clear Ro
    obtain ⟨zac0, zac1, zac2, zaf0, zaf1, zaf2, zal⟩ := za.cells
    go_wp2_with fail
    refine (dfloor_as h1 (by omega) hT ef.out).mono ?_
    rintro en w10 ⟨V_Rl, v_Rl, rfl, Rl, b⟩
    clear zac0 zac1 zac2 zaf0 zaf1 zaf2 zal
    replace za := za.on b
    replace zb := zb.on b
    replace hT := hT.on b
    replace h1 := h1.on b
    replace h2 := h2.on b
    replace Rx := Rx.on b
    replace zx := zx.on b
    replace zy := zy.on b
    replace Ry := Ry.on b
    replace Rp := Rp.on b
    replace zp := zp.on b
    replace BW := Below.step BW b
    clear b
    have l_Rl := res_n_le Rl (k := 128) ml.out
    obtain ⟨zac0, zac1, zac2, zaf0, zaf1, zaf2, zal⟩ := za.cells
    go_wp2_with fail
    clear zac0 zac1 zac2 zaf0 zaf1 zaf2 zal
    obtain ⟨w11, e_w11⟩ : ∃ w', w10.alloc (dob ln V_Rl v_Rl v_Rl le 25) = w' := ⟨_, rfl⟩
    have b : Below w10.heap.size w10 w11 := e_w11 ▸ below_lit _ _
    have hs_w11 : w11.heap.size = w10.heap.size + 1 := e_w11 ▸ size_lit w10 _ rfl
    have zl : DB w11 w10.heap.size 25 ln V_Rl v_Rl v_Rl le := e_w11 ▸ DB.made w10 rfl 25 ln V_Rl v_Rl v_Rl le
    rw [e_w11]
    clear e_w11
    replace za := za.on b
    replace zb := zb.on b
    replace hT := hT.on b
    replace h1 := h1.on b
    replace h2 := h2.on b
    replace Rx := Rx.on b
    replace zx := zx.on b
    replace zy := zy.on b
    replace Ry := Ry.on b
    replace Rp := Rp.on b
    replace zp := zp.on b
    replace Rl := Rl.on b
    replace BW := Below.step BW b
    clear b
    refine (own_any h1 (by omega)).mono ?_
    rintro en w12 ⟨Bo, mo, do_, rfl, Ro, b⟩
    replace za := za.on b
    replace zb := zb.on b
    replace hT := hT.on b
    replace h1 := h1.on b
    replace h2 := h2.on b
    replace Rx := Rx.on b
    replace zx := zx.on b
    replace zy := zy.on b
    replace Ry := Ry.on b
    replace Rp := Rp.on b
    replace zp := zp.on b
    replace Rl := Rl.on b
    replace zl := zl.on b
    replace BW := Below.step BW b
    clear b
    have l_Ro := Ro.le (k := 100000) hb1
    go_wp2_with fail
    refine (rFloor_as Ro (by omega) ef.out).mono ?_
    rintro en w13 ⟨Bm, mm, dm, rfl, Rm, b⟩
    replace za := za.on b
    replace zb := zb.on b
    replace hT := hT.on b
    replace h1 := h1.on b
    replace h2 := h2.on b
    replace Rx := Rx.on b
    replace zx := zx.on b
    replace zy := zy.on b
    replace Ry := Ry.on b
    replace Rp := Rp.on b
    replace zp := zp.on b
    replace Rl := Rl.on b
    replace zl := zl.on b
    replace Ro := Ro.on b
    replace BW := Below.step BW b
    clear b
    clear Ro
    have l_Rm := Rm.le (k := 100000) (Nat.le_trans ml.out (by omega))
    go_wp2_with fail
    obtain ⟨w14, e_w14⟩ : ∃ w', w13.alloc (dob ln Bm mm dm le 34) = w' := ⟨_, rfl⟩
    have b : Below w13.heap.size w13 w14 := e_w14 ▸ below_lit _ _
    have hs_w14 : w14.heap.size = w13.heap.size + 1 := e_w14 ▸ size_lit w13 _ rfl
    have zm : DB w14 w13.heap.size 34 ln Bm mm dm le := e_w14 ▸ DB.made w13 rfl 34 ln Bm mm dm le
    rw [e_w14]
    clear e_w14
    replace za := za.on b
    replace zb := zb.on b
    replace hT := hT.on b
    replace h1 := h1.on b
    replace h2 := h2.on b
    replace Rx := Rx.on b
    replace zx := zx.on b
    replace zy := zy.on b
    replace Ry := Ry.on b
    replace Rp := Rp.on b
    replace zp := zp.on b
    replace Rl := Rl.on b
    replace zl := zl.on b
    replace Rm := Rm.on b
    replace BW := Below.step BW b
    clear b
    refine (dof_as (-(u : Int)) (by omega) (by omega) hT eo.out).mono ?_
    rintro en w15 ⟨V_Rq, v_Rq, rfl, Rq, b⟩
    replace za := za.on b
    replace zb := zb.on b
    replace hT := hT.on b
    replace h1 := h1.on b
    replace h2 := h2.on b
    replace Rx := Rx.on b
    replace zx := zx.on b
    replace zy := zy.on b
    replace Ry := Ry.on b
    replace Rp := Rp.on b
    replace zp := zp.on b
    replace Rl := Rl.on b
    replace zl := zl.on b
    replace Rm := Rm.on b
    replace zm := zm.on b
    replace BW := Below.step BW b
    clear b
    have l_Rq := res_n_le Rq (k := 128) mo_.out
    go_wp2_with fail
    have qu : IntKind.u64.wrap (-IntKind.u64.wrap (-(u : Int))) = (u : Int) := by rw [IntKind.wrap_u64, IntKind.wrap_u64]; omega
    rw [qu]
    clear qu
    obtain ⟨w16, e_w16⟩ : ∃ w', w15.alloc (dob on V_Rq v_Rq v_Rq oe 25) = w' := ⟨_, rfl⟩
    have b : Below w15.heap.size w15 w16 := e_w16 ▸ below_lit _ _
    have hs_w16 : w16.heap.size = w15.heap.size + 1 := e_w16 ▸ size_lit w15 _ rfl
    have zo : DB w16 w15.heap.size 25 on V_Rq v_Rq v_Rq oe := e_w16 ▸ DB.made w15 rfl 25 on V_Rq v_Rq v_Rq oe
    rw [e_w16]
    clear e_w16
    replace za := za.on b
    replace zb := zb.on b
    replace hT := hT.on b
    replace h1 := h1.on b
    replace h2 := h2.on b
    replace Rx := Rx.on b
    replace zx := zx.on b
    replace zy := zy.on b
    replace Ry := Ry.on b
    replace Rp := Rp.on b
    replace zp := zp.on b
    replace Rl := Rl.on b
    replace zl := zl.on b
    replace Rm := Rm.on b
    replace zm := zm.on b
    replace Rq := Rq.on b
    replace BW := Below.step BW b
    clear b
    skip
    have HS : Hid (∀ w', Below w16.heap.size w16 w' → w'.cell? ⟨w2.heap.size, 0, none⟩ = some (.bool xn) ∧ w'.cell? ⟨w2.heap.size, 1, none⟩ = some (.slice V_Rx v_Rx v_Rx) ∧ w'.cell? ⟨w2.heap.size, 2, none⟩ = some (.int .i64 xe) ∧ w'.cell? ⟨gzy, 0, none⟩ = some (.bool xn) ∧ w'.cell? ⟨gzy, 1, none⟩ = some (.slice Azy nzy czy) ∧ w'.cell? ⟨gzy, 2, none⟩ = some (.int .i64 xe) ∧ w'.cell? ⟨w10.heap.size, 0, none⟩ = some (.bool ln) ∧ w'.cell? ⟨w10.heap.size, 1, none⟩ = some (.slice V_Rl v_Rl v_Rl) ∧ w'.cell? ⟨w10.heap.size, 2, none⟩ = some (.int .i64 le) ∧ w'.cell? ⟨w13.heap.size, 0, none⟩ = some (.bool ln) ∧ w'.cell? ⟨w13.heap.size, 1, none⟩ = some (.slice Bm mm dm) ∧ w'.cell? ⟨w13.heap.size, 2, none⟩ = some (.int .i64 le) ∧ w'.cell? ⟨w15.heap.size, 0, none⟩ = some (.bool on) ∧ w'.cell? ⟨w15.heap.size, 1, none⟩ = some (.slice V_Rq v_Rq v_Rq) ∧ w'.cell? ⟨w15.heap.size, 2, none⟩ = some (.int .i64 oe)) := fun w' hb => by
      obtain ⟨zx0, zx1, zx2, _⟩ := (zx.on hb).cells
      obtain ⟨zy0, zy1, zy2, _⟩ := (zy.on hb).cells
      obtain ⟨zl0, zl1, zl2, _⟩ := (zl.on hb).cells
      obtain ⟨zm0, zm1, zm2, _⟩ := (zm.on hb).cells
      obtain ⟨zo0, zo1, zo2, _⟩ := (zo.on hb).cells
      exact ⟨zx0, zx1, zx2, zy0, zy1, zy2, zl0, zl1, zl2, zm0, zm1, zm2, zo0, zo1, zo2⟩
    have kk : Below w16.heap.size w16 w16.drew := (Below.refl _ _).drew
    have l_Ry := Ry.le (k := 100000) (Nat.le_trans mx.out (by omega))
    replace za := Lib.hid za
    replace zb := Lib.hid zb
    replace hT := Lib.hid hT
    replace h1 := Lib.hid h1
    replace h2 := Lib.hid h2
    replace Rx := Lib.hid Rx
    replace zx := Lib.hid zx
    replace zy := Lib.hid zy
    replace Ry := Lib.hid Ry
    replace Rp := Lib.hid Rp
    replace zp := Lib.hid zp
    replace Rl := Lib.hid Rl
    replace zl := Lib.hid zl
    replace Rm := Lib.hid Rm
    replace zm := Lib.hid zm
    replace Rq := Lib.hid Rq
    replace zo := Lib.hid zo
    replace BW := Lib.hid BW
    go_region_held3 (fun w' => w'.cell? ⟨w2.heap.size, 0, none⟩ = some (.bool xn) ∧ w'.cell? ⟨w2.heap.size, 1, none⟩ = some (.slice V_Rx v_Rx v_Rx) ∧ w'.cell? ⟨w2.heap.size, 2, none⟩ = some (.int .i64 xe) ∧ w'.cell? ⟨gzy, 0, none⟩ = some (.bool xn) ∧ w'.cell? ⟨gzy, 1, none⟩ = some (.slice Azy nzy czy) ∧ w'.cell? ⟨gzy, 2, none⟩ = some (.int .i64 xe) ∧ w'.cell? ⟨w10.heap.size, 0, none⟩ = some (.bool ln) ∧ w'.cell? ⟨w10.heap.size, 1, none⟩ = some (.slice V_Rl v_Rl v_Rl) ∧ w'.cell? ⟨w10.heap.size, 2, none⟩ = some (.int .i64 le) ∧ w'.cell? ⟨w13.heap.size, 0, none⟩ = some (.bool ln) ∧ w'.cell? ⟨w13.heap.size, 1, none⟩ = some (.slice Bm mm dm) ∧ w'.cell? ⟨w13.heap.size, 2, none⟩ = some (.int .i64 le) ∧ w'.cell? ⟨w15.heap.size, 0, none⟩ = some (.bool on) ∧ w'.cell? ⟨w15.heap.size, 1, none⟩ = some (.slice V_Rq v_Rq v_Rq) ∧ w'.cell? ⟨w15.heap.size, 2, none⟩ = some (.int .i64 oe))
      ((refine HS.out _ ?_; with_reducible assumption))
      (first
        | (go_at_call 17
           (with_reducible refine (is_any (Rx.out.on kk) (Ry.out.on kk) (by omega) (by omega)).mono ?_)
           rintro e u9 ⟨rfl, b9⟩
           have kk := Below.step kk b9
           clear b9)
        | (go_at_call 17
           (with_reducible refine (is_any (Rl.out.on kk) (Rm.out.on kk) (by omega) (by omega)).mono ?_)
           rintro e u9 ⟨rfl, b9⟩
           have kk := Below.step kk b9
           clear b9)
        | (go_at_call 28
           refine (rword_any u hu _).mono ?_
           rintro e u7 ⟨B7, m7, d7, rfl, r7, b7⟩
           have kk := Below.step kk b7
           have l7 := r7.le (k := 64) ((blen_le u 64).2 (by omega))
           have r7 := Lib.hid r7
           clear b7)
        | (go_at_call 27
           refine (rplain_any r7.out (by omega) (by omega) (by omega) eo2.out).mono ?_
           rintro e u8 ⟨B8, m8, d8, rfl, r8, b8⟩
           have kk := Below.step kk b8
           have l8 := r8.le (k := 100000) (Nat.le_trans mo_.out (by omega))
           have r8 := Lib.hid r8
           clear b8)
        | (go_at_call 17
           refine (is_any (Rq.out.on kk) r8.out (by omega) (by omega)).mono ?_
           rintro e u6 ⟨rfl, b6⟩
           have kk := Below.step kk b6
           clear b6))
    replace BW := Below.step BW.out kk
    replace za := za.out.on kk
    replace zb := zb.out.on kk
    replace hT := hT.out.on kk
    replace h1 := h1.out.on kk
    replace h2 := h2.out.on kk
    replace Rx := Rx.out.on kk
    replace zx := zx.out.on kk
    replace zy := zy.out.on kk
    replace Ry := Ry.out.on kk
    replace Rp := Rp.out.on kk
    replace zp := zp.out.on kk
    replace Rl := Rl.out.on kk
    replace zl := zl.out.on kk
    replace Rm := Rm.out.on kk
    replace zm := zm.out.on kk
    replace Rq := Rq.out.on kk
    replace zo := zo.out.on kk
    obtain ⟨zac0, zac1, zac2, zaf0, zaf1, zaf2, zal⟩ := za.cells
    go_wp2_with fail
    refine (own_any h1 (by omega)).mono ?_
    rintro en w17 ⟨Bo, mo, do_, rfl, Ro, b⟩
    clear zac0 zac1 zac2 zaf0 zaf1 zaf2 zal
    replace za := za.on b
    replace zb := zb.on b
    replace hT := hT.on b
    replace h1 := h1.on b
    replace h2 := h2.on b
    replace Rx := Rx.on b
    replace zx := zx.on b
    replace zy := zy.on b
    replace Ry := Ry.on b
    replace Rp := Rp.on b
    replace zp := zp.on b
    replace Rl := Rl.on b
    replace zl := zl.on b
    replace Rm := Rm.on b
    replace zm := zm.on b
    replace Rq := Rq.on b
    replace zo := zo.on b
    replace BW := Below.step BW b
    clear b
    have l_Ro := Ro.le (k := 100000) hb1
    go_wp2_with fail
    refine (rmay_any true Ro (by omega) hm.out).mono ?_
    rintro en w18 ⟨rfl, b⟩
    replace za := za.on b
    replace zb := zb.on b
    replace hT := hT.on b
    replace h1 := h1.on b
    replace h2 := h2.on b
    replace Rx := Rx.on b
    replace zx := zx.on b
    replace zy := zy.on b
    replace Ry := Ry.on b
    replace Rp := Rp.on b
    replace zp := zp.on b
    replace Rl := Rl.on b
    replace zl := zl.on b
    replace Rm := Rm.on b
    replace zm := zm.on b
    replace Rq := Rq.on b
    replace zo := zo.on b
    replace Ro := Ro.on b
    replace BW := Below.step BW b
    clear b
    clear Ro
    go_wp2_with fail
    have HS2 : Hid (∀ w', Below w18.heap.size w18 w' → w'.cell? ⟨w5.heap.size, 0, none⟩ = some (.bool pn) ∧ w'.cell? ⟨w5.heap.size, 1, none⟩ = some (.slice V_Rp v_Rp v_Rp) ∧ w'.cell? ⟨w5.heap.size, 2, none⟩ = some (.int .i64 pe) ∧ w'.cell? ⟨w.heap.size, 0, none⟩ = some (.bool na) ∧ w'.cell? ⟨w.heap.size, 1, none⟩ = some (.slice A1 n1 c1) ∧ w'.cell? ⟨w.heap.size, 2, none⟩ = some (.int .i64 ea)) := fun w' hb => by
      obtain ⟨zp0, zp1, zp2, _⟩ := (zp.on hb).cells
      obtain ⟨za0, za1, za2, _⟩ := (za.on hb).cells
      exact ⟨zp0, zp1, zp2, za0, za1, za2⟩
    clear kk
    have kk : Below w18.heap.size w18 w18.drew := (Below.refl _ _).drew
    replace h1 := Lib.hid h1
    replace Rp := Lib.hid Rp
    replace BW := Lib.hid BW
    go_region_held3 (fun w' => w'.cell? ⟨w5.heap.size, 0, none⟩ = some (.bool pn) ∧ w'.cell? ⟨w5.heap.size, 1, none⟩ = some (.slice V_Rp v_Rp v_Rp) ∧ w'.cell? ⟨w5.heap.size, 2, none⟩ = some (.int .i64 pe) ∧ w'.cell? ⟨w.heap.size, 0, none⟩ = some (.bool na) ∧ w'.cell? ⟨w.heap.size, 1, none⟩ = some (.slice A1 n1 c1) ∧ w'.cell? ⟨w.heap.size, 2, none⟩ = some (.int .i64 ea))
      ((refine HS2.out _ ?_; with_reducible assumption))
      (first
        | (go_at_call 12
           refine (own_any (h1.out.on kk) (by omega)).mono ?_
           rintro e t6 ⟨B1, m1, d1, rfl, r1, b6⟩
           have kk := Below.step kk b6
           have l1 := r1.le (k := 100000) hb1
           have r1 := Lib.hid r1
           clear b6)
        | (go_at_call 27
           refine (rplain_any r1.out (by omega) (by omega) (by omega) hpl.out).mono ?_
           rintro e t8 ⟨B8, m8, d8, rfl, r8, b8⟩
           have kk := Below.step kk b8
           have l8 := r8.le (k := 100000) (Nat.le_trans mp.out (by omega))
           have r8 := Lib.hid r8
           clear b8)
        | (go_at_call 17
           refine (is_any (Rp.out.on kk) r8.out (by omega) (by omega)).mono ?_
           rintro e t9 ⟨rfl, b9⟩
           have kk := Below.step kk b9
           clear b9))
    go_wp2_with fail
    go_ret
    exact ⟨rfl, Below.step BW.out kk⟩

set_option maxHeartbeats 4000000 in
set_option maxRecDepth 100000 in
theorem tells_neg_not {A1 A2 : Option Addr} {n1 c1 n2 c2 x y u : Nat} {na nb : Bool} {ea eb at_ : Int} {w : World} (h1 : Arg w A1 n1 c1 x) (h2 : Arg w A2 n2 c2 y) (hT : Tab w) (s1 : n1 ≤ 70) (s2 : n2 ≤ 70) (hu : u < 18446744073709551616) (hu0 : 0 < u) (hu1 : u ≤ 9223372036854775808) (hb1 : blen x ≤ 100000) (hb2 : blen y ≤ 100000)
    {xn ln on lost : Bool} {xx lx ox : Nat} {xe xerr le lerr oe t terr : Int} (mp : Hid (blen 0 ≤ 32 * 128)) (em : Hid (mulS ⟨na, x, ea⟩ ⟨nb, y, eb⟩ = (⟨xn, xx, xe⟩, xerr))) (mx : Hid (blen xx ≤ 32 * 128)) (ep : Hid (plainS ⟨na, x, ea⟩ = (⟨false, 0, 0⟩, 3))) (et : Hid (topS ⟨na, x, ea⟩ = (t, terr))) (ef : Hid (floorS ⟨na, x, ea⟩ at_ = (⟨ln, lx, le⟩, lost, lerr))) (ml : Hid (blen lx ≤ 32 * 128)) (eo : Hid (ofD (-(u : Int)) = ⟨on, ox, oe⟩)) (eo2 : Hid (D.pl ⟨true, u, 0⟩ = ⟨on, ox, oe⟩)) (mo_ : Hid (blen ox ≤ 32 * 128)) (hm : Hid (D.may ⟨na, x, ea⟩ = false)) :
    Calls Tryd.prog 4 #[.agg #[.bool na, .slice A1 n1 c1, .int .i64 ea], .agg #[.bool nb, .slice A2 n2 c2, .int .i64 eb], .int .i64 at_, .int .i64 (-(u : Int))] w fun e w' => e = .returned (.bool true) ∧ Below w.heap.size w w' := by
  go_enter Tryd.func4, Tryd.ntmps4
  go_wp2_with fail
  obtain ⟨W, hW, za, zb, BW, sW⟩ := frame2 w 25 25 na A1 n1 c1 ea nb A2 n2 c2 eb
  rw [hW]
  clear hW
  replace hT := hT.on BW
  replace h1 := h1.on BW
  replace h2 := h2.on BW
  refine (awake2_any hT).mono ?_
  rintro en w1 ⟨rfl, b⟩
  replace za := za.on b
  replace zb := zb.on b
  replace hT := hT.on b
  replace h1 := h1.on b
  replace h2 := h2.on b
  replace BW := Below.step BW b
  clear b
  obtain ⟨zac0, zac1, zac2, zaf0, zaf1, zaf2, zal⟩ := za.cells
  obtain ⟨zbc0, zbc1, zbc2, zbf0, zbf1, zbf2, zbl⟩ := zb.cells
  go_wp2_with fail
  refine (dmul_as h1 h2 (by omega) (by omega) hT em.out).mono ?_
  rintro en w2 ⟨V_Rx, v_Rx, rfl, Rx, b⟩
  clear zac0 zac1 zac2 zaf0 zaf1 zaf2 zal zbc0 zbc1 zbc2 zbf0 zbf1 zbf2 zbl
  replace za := za.on b
  replace zb := zb.on b
  replace hT := hT.on b
  replace h1 := h1.on b
  replace h2 := h2.on b
  replace BW := Below.step BW b
  clear b
  have l_Rx := res_n_le Rx (k := 128) mx.out
  go_upto_region 6 with fail
  obtain ⟨w3, e_w3⟩ : ∃ w', w2.alloc (dob xn V_Rx v_Rx v_Rx xe 25) = w' := ⟨_, rfl⟩
  have b : Below w2.heap.size w2 w3 := e_w3 ▸ below_lit _ _
  have hs_w3 : w3.heap.size = w2.heap.size + 1 := e_w3 ▸ size_lit w2 _ rfl
  have zx : DB w3 w2.heap.size 25 xn V_Rx v_Rx v_Rx xe := e_w3 ▸ DB.made w2 rfl 25 xn V_Rx v_Rx v_Rx xe
  rw [e_w3]
  clear e_w3
  replace za := za.on b
  replace zb := zb.on b
  replace hT := hT.on b
  replace h1 := h1.on b
  replace h2 := h2.on b
  replace Rx := Rx.on b
  replace BW := Below.step BW b
  clear b
  clear hs_w3
  go_cut [11, 12] (CutR w3 xn xx xe xerr)
  case first =>
    have HS : Hid (∀ w', Below w3.heap.size w3 w' → w'.cell? ⟨w.heap.size, 0, none⟩ = some (.bool na) ∧ w'.cell? ⟨w.heap.size, 1, none⟩ = some (.slice A1 n1 c1) ∧ w'.cell? ⟨w.heap.size, 2, none⟩ = some (.int .i64 ea) ∧ w'.cell? ⟨w.heap.size + 1, 0, none⟩ = some (.bool nb) ∧ w'.cell? ⟨w.heap.size + 1, 1, none⟩ = some (.slice A2 n2 c2) ∧ w'.cell? ⟨w.heap.size + 1, 2, none⟩ = some (.int .i64 eb)) := fun w' hb => by
      obtain ⟨p0, p1, p2, _⟩ := (za.on hb).cells
      obtain ⟨q0, q1, q2, _⟩ := (zb.on hb).cells
      exact ⟨p0, p1, p2, q0, q1, q2⟩
    have kk : Below w3.heap.size w3 w3.drew := (Below.refl _ _).drew
    have kd : Below w3.heap.size w3 (w3.alloc (dob false none 0 0 0 34)).drew := (below_more (Below.refl _ _) _).drew
    have H1 := Lib.hid h1
    have H2 := Lib.hid h2
    clear za zb hT h1 h2 Rx zx
    go_region_held3 (fun w' => w'.cell? ⟨w.heap.size, 0, none⟩ = some (.bool na) ∧ w'.cell? ⟨w.heap.size, 1, none⟩ = some (.slice A1 n1 c1) ∧ w'.cell? ⟨w.heap.size, 2, none⟩ = some (.int .i64 ea) ∧ w'.cell? ⟨w.heap.size + 1, 0, none⟩ = some (.bool nb) ∧ w'.cell? ⟨w.heap.size + 1, 1, none⟩ = some (.slice A2 n2 c2) ∧ w'.cell? ⟨w.heap.size + 1, 2, none⟩ = some (.int .i64 eb))
      ((refine HS.out _ ?_; first | (with_reducible assumption) | (with_reducible exact below_more (by assumption) _) | ((with_reducible refine below_put3 ?_ ?_ _ _ _) <;> first | (with_reducible assumption) | omega)))
      (first
      | (go_at_call_of 12 (Value.agg #[.bool na, .slice A1 n1 c1, .int .i64 ea])
         refine (own_any (H1.out.on (by first | (with_reducible assumption) | (with_reducible exact below_more (by assumption) _))) (by omega)).mono ?_
         rintro e v6 ⟨B1, m1, d1, rfl, r1, b6⟩
         have kk := Below.step (show Below w3.heap.size w3 _ from (by first | (with_reducible assumption) | (with_reducible exact below_more (by assumption) _))) b6
         have hz6 := kk.size
         have r1 := Lib.hid r1
         have b6 := Lib.hid b6)
      | (go_at_call_of 12 (Value.agg #[.bool nb, .slice A2 n2 c2, .int .i64 eb])
         refine (own_any (H2.out.on (by first | (with_reducible assumption) | (with_reducible exact below_more (by assumption) _))) (by omega)).mono ?_
         rintro e v7 ⟨B2, m2, d2, rfl, r2, b7⟩
         have kk := Below.step (show Below w3.heap.size w3 _ from (by first | (with_reducible assumption) | (with_reducible exact below_more (by assumption) _))) b7
         have hz7 := kk.size
         have r1 := Lib.hid (r1.out.on (show Below v6.heap.size v6 v7 by first | (with_reducible exact b7) | (with_reducible exact Below.step (below_lit _ _) b7)))
         have r2 := Lib.hid r2
         have b7 := Lib.hid b7)
      | (go_at_call 20
         refine (rMul_as (r1.out.on (by first | (with_reducible exact Below.refl _ _) | (with_reducible exact below_lit _ _))) (r2.out.on (by first | (with_reducible exact Below.refl _ _) | (with_reducible exact below_lit _ _))) (by rw [r1.out.size]; exact hb1) (by rw [r2.out.size]; exact hb2) em).mono ?_
         rintro e v8 ⟨B3, m3, d3, rfl, r3, b8⟩
         have kk := Below.step (show Below w3.heap.size w3 _ from (by first | (with_reducible assumption) | (with_reducible exact below_more (by assumption) _))) b8
         have hz8 := kk.size
         have r3 := Lib.hid r3
         first | (have zz := (((DB.made_drew w3 rfl 34 false none 0 0 0).on b6.out).on b7.out).on b8; obtain ⟨p0, p1, p2, g0, g1, g2, _⟩ := zz.cells; have zz := Lib.hid zz) | (have zz := ((DB.made v6 rfl 34 false none 0 0 0).on b7.out).on b8; obtain ⟨p0, p1, p2, g0, g1, g2, _⟩ := zz.cells; have zz := Lib.hid zz) | (have zz := (DB.made v7 rfl 34 false none 0 0 0).on b8; obtain ⟨p0, p1, p2, g0, g1, g2, _⟩ := zz.cells; have zz := Lib.hid zz) | skip
         clear b8))
    all_goals go_wp2_with fail
    all_goals go_meet
    all_goals (first | (exact ⟨_, B3, m3, d3, rfl, rfl, zz.out.put_d xn B3 m3 d3 xe, zz.out.br tR r3.out _ _ _, below_put3 kk (by omega) _ _ _⟩) | (exact ⟨_, B3, m3, d3, rfl, rfl, DB.made v8 rfl 34 xn B3 m3 d3 xe, r3.out.on (below_lit _ _), below_more kk _⟩))
  case rest =>
    obtain ⟨gzy, Azy, nzy, czy, rfl, rfl, zy, Ry, b⟩ := hcut
    obtain ⟨w4, rfl⟩ : ∃ w4 : World, w4 = wc := ⟨_, rfl⟩
    replace za := za.on b
    replace zb := zb.on b
    replace hT := hT.on b
    replace h1 := h1.on b
    replace h2 := h2.on b
    replace Rx := Rx.on b
    replace zx := zx.on b
    replace BW := Below.step BW b
    clear b
    obtain ⟨zac0, zac1, zac2, zaf0, zaf1, zaf2, zal⟩ := za.cells
    go_wp2_with fail
    refine (dplain_as h1 (by omega) hT ep.out).mono ?_
    rintro en w5 ⟨V_Rp, v_Rp, rfl, Rp, b⟩
    clear zac0 zac1 zac2 zaf0 zaf1 zaf2 zal
    replace za := za.on b
    replace zb := zb.on b
    replace hT := hT.on b
    replace h1 := h1.on b
    replace h2 := h2.on b
    replace Rx := Rx.on b
    replace zx := zx.on b
    replace zy := zy.on b
    replace Ry := Ry.on b
    replace BW := Below.step BW b
    clear b
    have l_Rp := res_n_le Rp (k := 128) mp.out
    obtain ⟨zac0, zac1, zac2, zaf0, zaf1, zaf2, zal⟩ := za.cells
    go_wp2_with fail
    clear zac0 zac1 zac2 zaf0 zaf1 zaf2 zal
    obtain ⟨w6, e_w6⟩ : ∃ w', w5.alloc (dob false V_Rp v_Rp v_Rp 0 25) = w' := ⟨_, rfl⟩
    have b : Below w5.heap.size w5 w6 := e_w6 ▸ below_lit _ _
    have hs_w6 : w6.heap.size = w5.heap.size + 1 := e_w6 ▸ size_lit w5 _ rfl
    have zp : DB w6 w5.heap.size 25 false V_Rp v_Rp v_Rp 0 := e_w6 ▸ DB.made w5 rfl 25 false V_Rp v_Rp v_Rp 0
    rw [e_w6]
    clear e_w6
    replace za := za.on b
    replace zb := zb.on b
    replace hT := hT.on b
    replace h1 := h1.on b
    replace h2 := h2.on b
    replace Rx := Rx.on b
    replace zx := zx.on b
    replace zy := zy.on b
    replace Ry := Ry.on b
    replace Rp := Rp.on b
    replace BW := Below.step BW b
    clear b
    refine (dtop_as h1 (by omega) hT et.out).mono ?_
    rintro en w7 ⟨rfl, b⟩
    replace za := za.on b
    replace zb := zb.on b
    replace hT := hT.on b
    replace h1 := h1.on b
    replace h2 := h2.on b
    replace Rx := Rx.on b
    replace zx := zx.on b
    replace zy := zy.on b
    replace Ry := Ry.on b
    replace Rp := Rp.on b
    replace zp := zp.on b
    replace BW := Below.step BW b
    clear b
    obtain ⟨zac0, zac1, zac2, zaf0, zaf1, zaf2, zal⟩ := za.cells
    go_wp2_with fail
    refine (own_any h1 (by omega)).mono ?_
    rintro en w8 ⟨Bo, mo, do_, rfl, Ro, b⟩
    clear zac0 zac1 zac2 zaf0 zaf1 zaf2 zal
    replace za := za.on b
    replace zb := zb.on b
    replace hT := hT.on b
    replace h1 := h1.on b
    replace h2 := h2.on b
    replace Rx := Rx.on b
    replace zx := zx.on b
    replace zy := zy.on b
    replace Ry := Ry.on b
    replace Rp := Rp.on b
    replace zp := zp.on b
    replace BW := Below.step BW b
    clear b
    have l_Ro := Ro.le (k := 100000) hb1
    go_wp2_with fail
    refine (rtop_as Ro (by omega) et.out).mono ?_
    rintro en w9 ⟨rfl, b⟩
    replace za := za.on b
    replace zb := zb.on b
    replace hT := hT.on b
    replace h1 := h1.on b
    replace h2 := h2.on b
    replace Rx := Rx.on b
    replace zx := zx.on b
    replace zy := zy.on b
    replace Ry := Ry.on b
    replace Rp := Rp.on b
    replace zp := zp.on b
    replace Ro := Ro.on b
    replace BW := Below.step BW b
    clear b
    clear Ro
    obtain ⟨zac0, zac1, zac2, zaf0, zaf1, zaf2, zal⟩ := za.cells
    go_wp2_with fail
    refine (dfloor_as h1 (by omega) hT ef.out).mono ?_
    rintro en w10 ⟨V_Rl, v_Rl, rfl, Rl, b⟩
    clear zac0 zac1 zac2 zaf0 zaf1 zaf2 zal
    replace za := za.on b
    replace zb := zb.on b
    replace hT := hT.on b
    replace h1 := h1.on b
    replace h2 := h2.on b
    replace Rx := Rx.on b
    replace zx := zx.on b
    replace zy := zy.on b
    replace Ry := Ry.on b
    replace Rp := Rp.on b
    replace zp := zp.on b
    replace BW := Below.step BW b
    clear b
    have l_Rl := res_n_le Rl (k := 128) ml.out
    obtain ⟨zac0, zac1, zac2, zaf0, zaf1, zaf2, zal⟩ := za.cells
    go_wp2_with fail
    clear zac0 zac1 zac2 zaf0 zaf1 zaf2 zal
    obtain ⟨w11, e_w11⟩ : ∃ w', w10.alloc (dob ln V_Rl v_Rl v_Rl le 25) = w' := ⟨_, rfl⟩
    have b : Below w10.heap.size w10 w11 := e_w11 ▸ below_lit _ _
    have hs_w11 : w11.heap.size = w10.heap.size + 1 := e_w11 ▸ size_lit w10 _ rfl
    have zl : DB w11 w10.heap.size 25 ln V_Rl v_Rl v_Rl le := e_w11 ▸ DB.made w10 rfl 25 ln V_Rl v_Rl v_Rl le
    rw [e_w11]
    clear e_w11
    replace za := za.on b
    replace zb := zb.on b
    replace hT := hT.on b
    replace h1 := h1.on b
    replace h2 := h2.on b
    replace Rx := Rx.on b
    replace zx := zx.on b
    replace zy := zy.on b
    replace Ry := Ry.on b
    replace Rp := Rp.on b
    replace zp := zp.on b
    replace Rl := Rl.on b
    replace BW := Below.step BW b
    clear b
    refine (own_any h1 (by omega)).mono ?_
    rintro en w12 ⟨Bo, mo, do_, rfl, Ro, b⟩
    replace za := za.on b
    replace zb := zb.on b
    replace hT := hT.on b
    replace h1 := h1.on b
    replace h2 := h2.on b
    replace Rx := Rx.on b
    replace zx := zx.on b
    replace zy := zy.on b
    replace Ry := Ry.on b
    replace Rp := Rp.on b
    replace zp := zp.on b
    replace Rl := Rl.on b
    replace zl := zl.on b
    replace BW := Below.step BW b
    clear b
    have l_Ro := Ro.le (k := 100000) hb1
    go_wp2_with fail
    refine (rFloor_as Ro (by omega) ef.out).mono ?_
    rintro en w13 ⟨Bm, mm, dm, rfl, Rm, b⟩
    replace za := za.on b
    replace zb := zb.on b
    replace hT := hT.on b
    replace h1 := h1.on b
    replace h2 := h2.on b
    replace Rx := Rx.on b
    replace zx := zx.on b
    replace zy := zy.on b
    replace Ry := Ry.on b
    replace Rp := Rp.on b
    replace zp := zp.on b
    replace Rl := Rl.on b
    replace zl := zl.on b
    replace Ro := Ro.on b
    replace BW := Below.step BW b
    clear b
    clear Ro
    have l_Rm := Rm.le (k := 100000) (Nat.le_trans ml.out (by omega))
    go_wp2_with fail
    obtain ⟨w14, e_w14⟩ : ∃ w', w13.alloc (dob ln Bm mm dm le 34) = w' := ⟨_, rfl⟩
    have b : Below w13.heap.size w13 w14 := e_w14 ▸ below_lit _ _
    have hs_w14 : w14.heap.size = w13.heap.size + 1 := e_w14 ▸ size_lit w13 _ rfl
    have zm : DB w14 w13.heap.size 34 ln Bm mm dm le := e_w14 ▸ DB.made w13 rfl 34 ln Bm mm dm le
    rw [e_w14]
    clear e_w14
    replace za := za.on b
    replace zb := zb.on b
    replace hT := hT.on b
    replace h1 := h1.on b
    replace h2 := h2.on b
    replace Rx := Rx.on b
    replace zx := zx.on b
    replace zy := zy.on b
    replace Ry := Ry.on b
    replace Rp := Rp.on b
    replace zp := zp.on b
    replace Rl := Rl.on b
    replace zl := zl.on b
    replace Rm := Rm.on b
    replace BW := Below.step BW b
    clear b
    refine (dof_as (-(u : Int)) (by omega) (by omega) hT eo.out).mono ?_
    rintro en w15 ⟨V_Rq, v_Rq, rfl, Rq, b⟩
    replace za := za.on b
    replace zb := zb.on b
    replace hT := hT.on b
    replace h1 := h1.on b
    replace h2 := h2.on b
    replace Rx := Rx.on b
    replace zx := zx.on b
    replace zy := zy.on b
    replace Ry := Ry.on b
    replace Rp := Rp.on b
    replace zp := zp.on b
    replace Rl := Rl.on b
    replace zl := zl.on b
    replace Rm := Rm.on b
    replace zm := zm.on b
    replace BW := Below.step BW b
    clear b
    have l_Rq := res_n_le Rq (k := 128) mo_.out
    go_wp2_with fail
    have qu : IntKind.u64.wrap (-IntKind.u64.wrap (-(u : Int))) = (u : Int) := by rw [IntKind.wrap_u64, IntKind.wrap_u64]; omega
    rw [qu]
    clear qu
    obtain ⟨w16, e_w16⟩ : ∃ w', w15.alloc (dob on V_Rq v_Rq v_Rq oe 25) = w' := ⟨_, rfl⟩
    have b : Below w15.heap.size w15 w16 := e_w16 ▸ below_lit _ _
    have hs_w16 : w16.heap.size = w15.heap.size + 1 := e_w16 ▸ size_lit w15 _ rfl
    have zo : DB w16 w15.heap.size 25 on V_Rq v_Rq v_Rq oe := e_w16 ▸ DB.made w15 rfl 25 on V_Rq v_Rq v_Rq oe
    rw [e_w16]
    clear e_w16
    replace za := za.on b
    replace zb := zb.on b
    replace hT := hT.on b
    replace h1 := h1.on b
    replace h2 := h2.on b
    replace Rx := Rx.on b
    replace zx := zx.on b
    replace zy := zy.on b
    replace Ry := Ry.on b
    replace Rp := Rp.on b
    replace zp := zp.on b
    replace Rl := Rl.on b
    replace zl := zl.on b
    replace Rm := Rm.on b
    replace zm := zm.on b
    replace Rq := Rq.on b
    replace BW := Below.step BW b
    clear b
    skip
    have HS : Hid (∀ w', Below w16.heap.size w16 w' → w'.cell? ⟨w2.heap.size, 0, none⟩ = some (.bool xn) ∧ w'.cell? ⟨w2.heap.size, 1, none⟩ = some (.slice V_Rx v_Rx v_Rx) ∧ w'.cell? ⟨w2.heap.size, 2, none⟩ = some (.int .i64 xe) ∧ w'.cell? ⟨gzy, 0, none⟩ = some (.bool xn) ∧ w'.cell? ⟨gzy, 1, none⟩ = some (.slice Azy nzy czy) ∧ w'.cell? ⟨gzy, 2, none⟩ = some (.int .i64 xe) ∧ w'.cell? ⟨w10.heap.size, 0, none⟩ = some (.bool ln) ∧ w'.cell? ⟨w10.heap.size, 1, none⟩ = some (.slice V_Rl v_Rl v_Rl) ∧ w'.cell? ⟨w10.heap.size, 2, none⟩ = some (.int .i64 le) ∧ w'.cell? ⟨w13.heap.size, 0, none⟩ = some (.bool ln) ∧ w'.cell? ⟨w13.heap.size, 1, none⟩ = some (.slice Bm mm dm) ∧ w'.cell? ⟨w13.heap.size, 2, none⟩ = some (.int .i64 le) ∧ w'.cell? ⟨w15.heap.size, 0, none⟩ = some (.bool on) ∧ w'.cell? ⟨w15.heap.size, 1, none⟩ = some (.slice V_Rq v_Rq v_Rq) ∧ w'.cell? ⟨w15.heap.size, 2, none⟩ = some (.int .i64 oe)) := fun w' hb => by
      obtain ⟨zx0, zx1, zx2, _⟩ := (zx.on hb).cells
      obtain ⟨zy0, zy1, zy2, _⟩ := (zy.on hb).cells
      obtain ⟨zl0, zl1, zl2, _⟩ := (zl.on hb).cells
      obtain ⟨zm0, zm1, zm2, _⟩ := (zm.on hb).cells
      obtain ⟨zo0, zo1, zo2, _⟩ := (zo.on hb).cells
      exact ⟨zx0, zx1, zx2, zy0, zy1, zy2, zl0, zl1, zl2, zm0, zm1, zm2, zo0, zo1, zo2⟩
    have kk : Below w16.heap.size w16 w16.drew := (Below.refl _ _).drew
    have l_Ry := Ry.le (k := 100000) (Nat.le_trans mx.out (by omega))
    replace za := Lib.hid za
    replace zb := Lib.hid zb
    replace hT := Lib.hid hT
    replace h1 := Lib.hid h1
    replace h2 := Lib.hid h2
    replace Rx := Lib.hid Rx
    replace zx := Lib.hid zx
    replace zy := Lib.hid zy
    replace Ry := Lib.hid Ry
    replace Rp := Lib.hid Rp
    replace zp := Lib.hid zp
    replace Rl := Lib.hid Rl
    replace zl := Lib.hid zl
    replace Rm := Lib.hid Rm
    replace zm := Lib.hid zm
    replace Rq := Lib.hid Rq
    replace zo := Lib.hid zo
    replace BW := Lib.hid BW
    go_region_held3 (fun w' => w'.cell? ⟨w2.heap.size, 0, none⟩ = some (.bool xn) ∧ w'.cell? ⟨w2.heap.size, 1, none⟩ = some (.slice V_Rx v_Rx v_Rx) ∧ w'.cell? ⟨w2.heap.size, 2, none⟩ = some (.int .i64 xe) ∧ w'.cell? ⟨gzy, 0, none⟩ = some (.bool xn) ∧ w'.cell? ⟨gzy, 1, none⟩ = some (.slice Azy nzy czy) ∧ w'.cell? ⟨gzy, 2, none⟩ = some (.int .i64 xe) ∧ w'.cell? ⟨w10.heap.size, 0, none⟩ = some (.bool ln) ∧ w'.cell? ⟨w10.heap.size, 1, none⟩ = some (.slice V_Rl v_Rl v_Rl) ∧ w'.cell? ⟨w10.heap.size, 2, none⟩ = some (.int .i64 le) ∧ w'.cell? ⟨w13.heap.size, 0, none⟩ = some (.bool ln) ∧ w'.cell? ⟨w13.heap.size, 1, none⟩ = some (.slice Bm mm dm) ∧ w'.cell? ⟨w13.heap.size, 2, none⟩ = some (.int .i64 le) ∧ w'.cell? ⟨w15.heap.size, 0, none⟩ = some (.bool on) ∧ w'.cell? ⟨w15.heap.size, 1, none⟩ = some (.slice V_Rq v_Rq v_Rq) ∧ w'.cell? ⟨w15.heap.size, 2, none⟩ = some (.int .i64 oe))
      ((refine HS.out _ ?_; with_reducible assumption))
      (first
        | (go_at_call 17
           (with_reducible refine (is_any (Rx.out.on kk) (Ry.out.on kk) (by omega) (by omega)).mono ?_)
           rintro e u9 ⟨rfl, b9⟩
           have kk := Below.step kk b9
           clear b9)
        | (go_at_call 17
           (with_reducible refine (is_any (Rl.out.on kk) (Rm.out.on kk) (by omega) (by omega)).mono ?_)
           rintro e u9 ⟨rfl, b9⟩
           have kk := Below.step kk b9
           clear b9)
        | (go_at_call 28
           refine (rword_any u hu _).mono ?_
           rintro e u7 ⟨B7, m7, d7, rfl, r7, b7⟩
           have kk := Below.step kk b7
           have l7 := r7.le (k := 64) ((blen_le u 64).2 (by omega))
           have r7 := Lib.hid r7
           clear b7)
        | (go_at_call 27
           refine (rplain_any r7.out (by omega) (by omega) (by omega) eo2.out).mono ?_
           rintro e u8 ⟨B8, m8, d8, rfl, r8, b8⟩
           have kk := Below.step kk b8
           have l8 := r8.le (k := 100000) (Nat.le_trans mo_.out (by omega))
           have r8 := Lib.hid r8
           clear b8)
        | (go_at_call 17
           refine (is_any (Rq.out.on kk) r8.out (by omega) (by omega)).mono ?_
           rintro e u6 ⟨rfl, b6⟩
           have kk := Below.step kk b6
           clear b6))
    replace BW := Below.step BW.out kk
    replace za := za.out.on kk
    replace zb := zb.out.on kk
    replace hT := hT.out.on kk
    replace h1 := h1.out.on kk
    replace h2 := h2.out.on kk
    replace Rx := Rx.out.on kk
    replace zx := zx.out.on kk
    replace zy := zy.out.on kk
    replace Ry := Ry.out.on kk
    replace Rp := Rp.out.on kk
    replace zp := zp.out.on kk
    replace Rl := Rl.out.on kk
    replace zl := zl.out.on kk
    replace Rm := Rm.out.on kk
    replace zm := zm.out.on kk
    replace Rq := Rq.out.on kk
    replace zo := zo.out.on kk
    obtain ⟨zac0, zac1, zac2, zaf0, zaf1, zaf2, zal⟩ := za.cells
    go_wp2_with fail
    refine (own_any h1 (by omega)).mono ?_
    rintro en w17 ⟨Bo, mo, do_, rfl, Ro, b⟩
    clear zac0 zac1 zac2 zaf0 zaf1 zaf2 zal
    replace za := za.on b
    replace zb := zb.on b
    replace hT := hT.on b
    replace h1 := h1.on b
    replace h2 := h2.on b
    replace Rx := Rx.on b
    replace zx := zx.on b
    replace zy := zy.on b
    replace Ry := Ry.on b
    replace Rp := Rp.on b
    replace zp := zp.on b
    replace Rl := Rl.on b
    replace zl := zl.on b
    replace Rm := Rm.on b
    replace zm := zm.on b
    replace Rq := Rq.on b
    replace zo := zo.on b
    replace BW := Below.step BW b
    clear b
    have l_Ro := Ro.le (k := 100000) hb1
    go_wp2_with fail
    refine (rmay_any false Ro (by omega) hm.out).mono ?_
    rintro en w18 ⟨rfl, b⟩
    replace za := za.on b
    replace zb := zb.on b
    replace hT := hT.on b
    replace h1 := h1.on b
    replace h2 := h2.on b
    replace Rx := Rx.on b
    replace zx := zx.on b
    replace zy := zy.on b
    replace Ry := Ry.on b
    replace Rp := Rp.on b
    replace zp := zp.on b
    replace Rl := Rl.on b
    replace zl := zl.on b
    replace Rm := Rm.on b
    replace zm := zm.on b
    replace Rq := Rq.on b
    replace zo := zo.on b
    replace Ro := Ro.on b
    replace BW := Below.step BW b
    clear b
    obtain rfl : v_Rp = 0 := Rp.zero_n
    obtain ⟨zpc0, zpc1, zpc2, zpf0, zpf1, zpf2, zpl⟩ := zp.cells
    go_wp2_with fail
    go_ret
    exact ⟨rfl, BW⟩

theorem mulS_blen {a b : D} {n : Bool} {x : Nat} {e err : Int} (h : mulS a b = (⟨n, x, e⟩, err)) : blen x ≤ 32 * 128 := by
  have key : ∀ d : D, blen (tld d).1.x ≤ 4096 := fun d => by
    by_cases hm : d.may = true
    · rw [tld_ok hm]; exact ((D.may_iff d).1 hm).1
    · rw [tld_over (by simpa using hm)]; exact Nat.zero_le _
  have h2 : blen (mulS a b).1.x ≤ 4096 := by
    by_cases ma : a.may = true
    · by_cases mb : b.may = true
      · rw [mulS_ok ma mb]; exact key _
      · rw [mulS_err (.inr (by simpa using mb))]; exact Nat.zero_le _
    · rw [mulS_err (.inl (by simpa using ma))]; exact Nat.zero_le _
  rw [h] at h2
  exact h2
theorem floorS_blen {a : D} {at_ : Int} : blen (floorS a at_).1.x ≤ blen a.x := by
  unfold floorS
  split
  · split
    · split
      · exact pl_blen a
      · exact Nat.le_trans (pl_blen _) (blen_le_of (Nat.div_le_self _ _))
    · exact Nat.zero_le _
  · exact Nat.zero_le _

set_option maxHeartbeats 1000000 in
set_option maxRecDepth 100000 in
theorem tells_bad {A1 A2 : Option Addr} {n1 c1 n2 c2 : Nat} {na nb : Bool} {ea eb at_ n : Int} {w : World} (hT : Tab w) (l1 : n1 ≤ 9223372036854775807) (l2 : n2 ≤ 9223372036854775807) (hb : 70 < n1 ∨ n1 ≤ 70 ∧ 70 < n2) :
    Calls Tryd.prog 4 #[.agg #[.bool na, .slice A1 n1 c1, .int .i64 ea], .agg #[.bool nb, .slice A2 n2 c2, .int .i64 eb], .int .i64 at_, .int .i64 n] w fun e w' => e = .returned (.bool true) ∧ Below w.heap.size w w' := by
  rcases hb with hb | ⟨hb, hb2⟩
  all_goals
    go_enter Tryd.func4, Tryd.ntmps4
    go_wp2_with fail
    obtain ⟨W, hW, za, zb, BW, sW⟩ := frame2 w 25 25 na A1 n1 c1 ea nb A2 n2 c2 eb
    rw [hW]
    clear hW
    refine (awake2_any (hT.on BW)).mono ?_
    rintro en w1 ⟨rfl, b⟩
    replace za := za.on b
    replace zb := zb.on b
    replace BW := Below.step BW b
    clear b
    obtain ⟨p0, p1, p2, g0, g1, g2, _⟩ := za.cells
    obtain ⟨q0, q1, q2, i0, i1, i2, _⟩ := zb.cells
    go_wp2_with fail
    go_ret
    exact ⟨rfl, BW⟩

theorem tells_walk {A1 A2 : Option Addr} {n1 c1 n2 c2 x y : Nat} {na nb : Bool} {ea eb at_ n : Int} {w : World} (h1 : Arg w A1 n1 c1 x) (_ : (Lit.int .i64 ea).wf = true) (h2 : Arg w A2 n2 c2 y) (_ : (Lit.int .i64 eb).wf = true) (_ : (Lit.int .i64 at_).wf = true) (wn : (Lit.int .i64 n).wf = true) (hT : Tab w) :
    Calls Tryd.prog 4 #[.agg #[.bool na, .slice A1 n1 c1, .int .i64 ea], .agg #[.bool nb, .slice A2 n2 c2, .int .i64 eb], .int .i64 at_, .int .i64 n] w fun e w' => e = .returned (.bool true) ∧ Below w.heap.size w w' := by
  have hn : -9223372036854775808 ≤ n ∧ n ≤ 9223372036854775807 := by
    simp [Lit.wf, IntKind.min, IntKind.max, IntKind.signed, IntKind.bits] at wn
    omega
  have q1 := h1.n_le
  have q2 := h2.n_le
  by_cases s1 : n1 ≤ 70
  · by_cases s2 : n2 ≤ 70
    · have l1 := h1.blen
      have l2 := h2.blen
      obtain ⟨⟨⟨xn, xx, xe⟩, xerr⟩, em⟩ : ∃ r, mulS ⟨na, x, ea⟩ ⟨nb, y, eb⟩ = r := ⟨_, rfl⟩
      obtain ⟨⟨t, terr⟩, et⟩ : ∃ r, topS ⟨na, x, ea⟩ = r := ⟨_, rfl⟩
      obtain ⟨⟨⟨ln, lx, le⟩, lost, lerr⟩, ef⟩ : ∃ r, floorS ⟨na, x, ea⟩ at_ = r := ⟨_, rfl⟩
      have mx := mulS_blen em
      have ml : blen lx ≤ 32 * 128 := by
        have := floorS_blen (a := ⟨na, x, ea⟩) (at_ := at_)
        rw [ef] at this
        have : blen lx ≤ blen x := this
        omega
      obtain ⟨⟨pn, px, pe⟩, hpl⟩ : ∃ d, D.pl ⟨na, x, ea⟩ = d := ⟨_, rfl⟩
      have mp : blen px ≤ 32 * 128 := by
        have := pl_blen ⟨na, x, ea⟩
        rw [hpl] at this
        have : blen px ≤ blen x := this
        omega
      obtain ⟨m, hm⟩ : ∃ b, D.may ⟨na, x, ea⟩ = b := ⟨_, rfl⟩
      by_cases hneg : n < 0
      · obtain ⟨u, rfl⟩ : ∃ u : Nat, n = -(u : Int) := ⟨n.natAbs, by omega⟩
        obtain ⟨⟨on, ox, oe⟩, eo⟩ : ∃ d, ofD (-(u : Int)) = d := ⟨_, rfl⟩
        have eo2 : D.pl ⟨true, u, 0⟩ = ⟨on, ox, oe⟩ := by
          rw [← eo]; unfold ofD; rw [decide_eq_true hneg, Int.natAbs_neg, Int.natAbs_natCast]
        have mo : blen ox ≤ 32 * 128 := by
          have := pl_blen ⟨true, u, 0⟩
          rw [eo2] at this
          have h3 : blen ox ≤ blen u := this
          have := (blen_le u 64).2 (by omega)
          omega
        cases m
        · exact tells_neg_not h1 h2 hT s1 s2 (by omega) (by omega) (by omega) (by omega) (by omega) (by show blen 0 ≤ _; rw [blen_zero]; omega) em mx (by show plainS _ = _; unfold plainS; rw [hm]; rfl) et ef ml eo eo2 mo hm
        · obtain ⟨_, m1, m2⟩ := (D.may_iff _).1 hm
          exact tells_neg_may h1 h2 hT s1 s2 (by omega) (by omega) (by omega) (by omega) (by omega) hpl mp m1 m2 em mx (by show plainS _ = _; unfold plainS; rw [hm, hpl]; rfl) et ef ml eo eo2 mo hm
      · obtain ⟨u, rfl⟩ := Int.eq_ofNat_of_zero_le (show 0 ≤ n by omega)
        obtain ⟨⟨on, ox, oe⟩, eo⟩ : ∃ d, ofD (u : Int) = d := ⟨_, rfl⟩
        have eo2 : D.pl ⟨false, u, 0⟩ = ⟨on, ox, oe⟩ := by
          rw [← eo]; unfold ofD; rw [decide_eq_false hneg, Int.natAbs_natCast]
        have mo : blen ox ≤ 32 * 128 := by
          have := pl_blen ⟨false, u, 0⟩
          rw [eo2] at this
          have h3 : blen ox ≤ blen u := this
          have := (blen_le u 64).2 (by omega)
          omega
        cases m
        · exact tells_pos_not h1 h2 hT s1 s2 (by omega) (by omega) (by omega) (by omega) (by show blen 0 ≤ _; rw [blen_zero]; omega) em mx (by show plainS _ = _; unfold plainS; rw [hm]; rfl) et ef ml eo eo2 mo hm
        · obtain ⟨_, m1, m2⟩ := (D.may_iff _).1 hm
          exact tells_pos_may h1 h2 hT s1 s2 (by omega) (by omega) (by omega) (by omega) hpl mp m1 m2 em mx (by show plainS _ = _; unfold plainS; rw [hm, hpl]; rfl) et ef ml eo eo2 mo hm
    · exact tells_bad hT q1 q2 (.inr ⟨s1, by omega⟩)
  · exact tells_bad hT q1 q2 (.inl (by omega))
end Go.Proofs.YthaehfdjldjdiaaDoor
