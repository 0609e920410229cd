/-
  The walk of the reference's Floor (layer 2), for later layers (Dtells holds it, too: neither imports the other).
  The walks of the reference of layer 4: small functions.
  The walk of the reference of layer 4: Neighbours.
  The walk of the reference of layer 4: Chosen.
  The walk of the reference of layer 4: To.
-/
import Derived.Test.YtpachoeignpcbaaGreatDoorRd
import Derived.Test.YtpachoeignpcbaaGreatDoorDj
import Derived.Test.YtpachoeignpcbaaGreatDoorFR
import Derived.Test.YtpachoeignpcbaaGreatDoorRM
import Derived.Test.YtpachoeignpcbaaGreatDoorRA
import Derived.Deep.DeepCutAuto
namespace Go.Proofs.YtpachoeignpcbaaGreatDoor
open Go.RowKit
set_option linter.unusedVariables false

def FlR (w : World) (rn : Bool) (rx : Nat) (re : Int) (bl : Bool) (err : Int) (e : Ending) (w' : World) : Prop := ∃ A n c, e = .returned (.tuple #[.agg #[.bool rn, .slice A n c, .int .i64 re], .bool bl, .int .i64 err]) ∧ BR w' A n c rx ∧ Below w.heap.size w w'
set_option maxHeartbeats 1000000 in
theorem rfloor_err {A : Option Addr} {n c x : Nat} {neg : Bool} {e at_ : Int} {w : World} {rn : Bool} {rx : Nat} {re : Int} {bl : Bool} {err : Int} (h : BR w A n c x) (hn : n ≤ 100000) (HM : Hid (D.may ⟨neg, x, e⟩ = false)) (hr : floorS ⟨neg, x, e⟩ at_ = (⟨rn, rx, re⟩, bl, err)) :
    Calls Tryz.prog 127 #[.agg #[.bool neg, .slice A n c, .int .i64 e], .int .i64 at_] w (FlR w rn rx re bl err) := by
  rw [floorS_err _ HM.out] at hr
  injection hr with hr hr2
  injection hr with i1' i2' i3'
  injection hr2 with j1 j2
  subst i1' i2' i3' j1 j2
  go_enter Tryz.func127, Tryz.ntmps127
  go_wp2_with fail
  obtain ⟨W, hW, z0, z1, BW, sW⟩ := frame2 w 71 71 neg A n c e false none 0 0 0
  rw [hW]
  clear hW
  refine (rmay_any false (h.on BW) (by omega) HM.out).mono ?_
  rintro en w1 ⟨rfl, b⟩
  replace z0 := z0.on b
  replace z1 := z1.on b
  replace BW := Below.step BW b
  clear b
  obtain ⟨p0, p1, p2, g0, g1, g2, hl3⟩ := z1.cells
  go_wp2_with fail
  refine bodyPost_ret (v := .tuple #[.agg #[.bool false, .slice none 0 0, .int .i64 0], .bool false, .int .i64 3]) (by simp [results, Tryz.results127, go_sem, p0, p1, p2]) rfl ?_
  exact ⟨none, 0, 0, rfl, BR.none_ _, below_put3 BW (by omega) _ _ _⟩

set_option maxHeartbeats 1000000 in
theorem rfloor_arg {A : Option Addr} {n c x : Nat} {neg : Bool} {e at_ : Int} {w : World} {rn : Bool} {rx : Nat} {re : Int} {bl : Bool} {err : Int} (h : BR w A n c x) (hn : n ≤ 100000) (HM : Hid (D.may ⟨neg, x, e⟩ = true)) (hp : at_ < -8192 ∨ -8192 ≤ at_ ∧ 8192 < at_) (hr : floorS ⟨neg, x, e⟩ at_ = (⟨rn, rx, re⟩, bl, err)) :
    Calls Tryz.prog 127 #[.agg #[.bool neg, .slice A n c, .int .i64 e], .int .i64 at_] w (FlR w rn rx re bl err) := by
  rw [floorS_arg HM.out (by have := (plB_iff at_).1; cases hb : plB at_; rfl; exact absurd (this hb) (by omega))] at hr
  injection hr with hr hr2
  injection hr with i1' i2' i3'
  injection hr2 with j1 j2
  subst i1' i2' i3' j1 j2
  rcases hp with hp | ⟨hp, hp2⟩
  all_goals
    go_enter Tryz.func127, Tryz.ntmps127
    go_wp2_with fail
    obtain ⟨W, hW, z0, z1, BW, sW⟩ := frame2 w 71 71 neg A n c e false none 0 0 0
    rw [hW]
    clear hW
    refine (rmay_any true (h.on BW) (by omega) HM.out).mono ?_
    rintro en w1 ⟨rfl, b⟩
    replace z0 := z0.on b
    replace z1 := z1.on b
    replace BW := Below.step BW b
    clear b
    obtain ⟨p0, p1, p2, g0, g1, g2, hl3⟩ := z1.cells
    go_wp2_with fail
    refine bodyPost_ret (v := .tuple #[.agg #[.bool false, .slice none 0 0, .int .i64 0], .bool false, .int .i64 1]) (by simp [results, Tryz.results127, go_sem, p0, p1, p2]) rfl ?_
    exact ⟨none, 0, 0, rfl, BR.none_ _, below_put3 BW (by omega) _ _ _⟩

set_option maxHeartbeats 1000000 in
theorem rfloor_ge {A : Option Addr} {n c x : Nat} {neg : Bool} {e at_ : Int} {w : World} {rn : Bool} {rx : Nat} {re : Int} {bl : Bool} {err : Int} (h : BR w A n c x) (hn : n ≤ 100000) (HM : Hid (D.may ⟨neg, x, e⟩ = true)) (t1 : -8192 ≤ at_) (t2 : at_ ≤ 8192) (hge : at_ ≤ e) (hr : floorS ⟨neg, x, e⟩ at_ = (⟨rn, rx, re⟩, bl, err)) :
    Calls Tryz.prog 127 #[.agg #[.bool neg, .slice A n c, .int .i64 e], .int .i64 at_] w (FlR w rn rx re bl err) := by
  obtain ⟨m0, m1, m2⟩ := (D.may_iff _).1 HM.out
  simp only at m0 m1 m2
  unfold floorS at hr
  rw [HM.out, (plB_iff at_).2 ⟨t1, t2⟩, if_pos rfl, if_pos rfl, if_pos (show at_ ≤ (D.mk neg x e).e from hge)] at hr
  injection hr with hr hr2
  injection hr2 with j1 j2
  subst j1 j2
  have HD := Lib.hid hr
  clear hr
  go_enter Tryz.func127, Tryz.ntmps127
  go_wp2_with fail
  obtain ⟨W, hW, z0, z1, BW, sW⟩ := frame2 w 71 71 neg A n c e false none 0 0 0
  rw [hW]
  clear hW
  refine (rmay_any true (h.on BW) (by omega) HM.out).mono ?_
  rintro en w1 ⟨rfl, b⟩
  replace z0 := z0.on b
  replace z1 := z1.on b
  replace BW := Below.step BW b
  clear b
  obtain ⟨q0, q1, q2, i0, i1, i2, hl2⟩ := z0.cells
  go_wp2_with fail
  refine (rplain_any (h.on BW) (by omega) (by omega) (by omega) HD.out).mono ?_
  rintro en w2 ⟨V, v, d, rfl, rv, b⟩
  replace z1 := z1.on b
  replace BW := Below.step BW b
  clear b q0 q1 q2 i0 i1 i2
  obtain ⟨p0, p1, p2, g0, g1, g2, hl3⟩ := z1.cells
  go_wp2_with fail
  refine bodyPost_ret (v := .tuple #[.agg #[.bool rn, .slice V v d, .int .i64 re], .bool false, .int .i64 0]) (by simp [results, Tryz.results127, go_sem, p0, p1, p2]) rfl ?_
  exact ⟨V, v, d, rfl, z1.br tR rv _ _ _, below_put3 BW (by omega) _ _ _⟩

set_option maxHeartbeats 1000000 in
theorem rfloor_lt {A : Option Addr} {n c x : Nat} {neg : Bool} {e at_ : Int} {w : World} {rn : Bool} {rx : Nat} {re : Int} {bl : Bool} {err : Int} (h : BR w A n c x) (hn : n ≤ 100000) (HM : Hid (D.may ⟨neg, x, e⟩ = true)) (t1 : -8192 ≤ at_) (t2 : at_ ≤ 8192) (hlt : e < at_) (hr : floorS ⟨neg, x, e⟩ at_ = (⟨rn, rx, re⟩, bl, err)) :
    Calls Tryz.prog 127 #[.agg #[.bool neg, .slice A n c, .int .i64 e], .int .i64 at_] w (FlR w rn rx re bl err) := by
  obtain ⟨m0, m1, m2⟩ := (D.may_iff _).1 HM.out
  simp only at m0 m1 m2
  unfold floorS at hr
  rw [HM.out, (plB_iff at_).2 ⟨t1, t2⟩, if_pos rfl, if_pos rfl, if_neg (show ¬ at_ ≤ (D.mk neg x e).e by show ¬ at_ ≤ e; omega)] at hr
  injection hr with hr hr2
  injection hr2 with j1 j2
  simp only at hr j1
  subst j2
  have HD := Lib.hid hr
  have HBL := Lib.hid j1
  clear hr j1
  go_enter Tryz.func127, Tryz.ntmps127
  go_wp2_with fail
  obtain ⟨W, hW, z0, z1, BW, sW⟩ := frame2 w 71 71 neg A n c e false none 0 0 0
  rw [hW]
  clear hW
  refine (rmay_any true (h.on BW) (by omega) HM.out).mono ?_
  rintro en w1 ⟨rfl, b⟩
  replace z0 := z0.on b
  replace z1 := z1.on b
  replace BW := Below.step BW b
  clear b
  obtain ⟨q0, q1, q2, i0, i1, i2, hl2⟩ := z0.cells
  go_wp2_with fail
  refine (rright_bl (h.on BW) (by omega) (at_ - e) bl HBL).mono ?_
  rintro en w' ⟨X, l, k, rfl, rr, rfl⟩
  have hl := rr.le (k := 100000) (Nat.le_trans (blen_le_of (Nat.div_le_self _ _)) (by rw [← h.size]; omega))
  go_wp2_with fail
  refine (rplain_any rr (by omega) (by omega) (by omega) HD.out).mono ?_
  rintro en w2 ⟨V, v, d, rfl, rv, b⟩
  replace z1 := z1.on b
  replace BW := Below.step BW b
  clear b q0 q1 q2 i0 i1 i2
  obtain ⟨p0, p1, p2, g0, g1, g2, hl3⟩ := z1.cells
  go_wp2_with fail
  refine bodyPost_ret (v := .tuple #[.agg #[.bool rn, .slice V v d, .int .i64 re], .bool bl, .int .i64 0]) (by simp [results, Tryz.results127, go_sem, p0, p1, p2]) rfl ?_
  exact ⟨V, v, d, rfl, z1.br tR rv _ _ _, below_put3 BW (by omega) _ _ _⟩

theorem rFloor_as {A : Option Addr} {n c x : Nat} {neg : Bool} {e at_ : Int} {w : World} {rn : Bool} {rx : Nat} {re : Int} {bl : Bool} {err : Int} (h : BR w A n c x) (hn : n ≤ 100000) (hr : floorS ⟨neg, x, e⟩ at_ = (⟨rn, rx, re⟩, bl, err)) :
    Calls Tryz.prog 127 #[.agg #[.bool neg, .slice A n c, .int .i64 e], .int .i64 at_] w (FlR w rn rx re bl err) := by
  obtain ⟨m, hm⟩ : ∃ b, D.may ⟨neg, x, e⟩ = b := ⟨_, rfl⟩
  cases m
  · exact rfloor_err h hn hm hr
  · by_cases t1 : -8192 ≤ at_
    · by_cases t2 : at_ ≤ 8192
      · by_cases hge : at_ ≤ e
        · exact rfloor_ge h hn hm t1 t2 hge hr
        · exact rfloor_lt h hn hm t1 t2 (by omega) hr
      · exact rfloor_arg h hn hm (.inr ⟨t1, by omega⟩) hr
    · exact rfloor_arg h hn hm (.inl (by omega)) hr

theorem floorS_blen {a : D} {at_ : Int} : blen (floorS a at_).1.x ≤ blen a.x := by
  unfold floorS
  split
  · split
    · split
      · exact pl_blen a
      · exact Nat.le_trans (pl_blen _) (blen_le_of (Nat.div_le_self _ _))
    · exact Nat.zero_le _
  · exact Nat.zero_le _

end Go.Proofs.YtpachoeignpcbaaGreatDoor

namespace Go.Proofs.YtpachoeignpcbaaGreatDoor
open Go.RowKit
set_option linter.unusedVariables false

theorem rsize_as {A : Option Addr} {n c : Nat} {neg : Bool} {e : Int} (w : World) :
    Calls Tryz.prog 71 #[.agg #[.bool neg, .slice A n c, .int .i64 e]] w fun en w' => en = .returned (.agg #[.bool false, .slice A n c, .int .i64 e]) ∧ Below w.heap.size w w' := by
  go_enter Tryz.func71, Tryz.ntmps71
  go_wp2_with fail
  refine bodyPost_ret (v := .agg #[.bool false, .slice A n c, .int .i64 e]) (by simp [results, Tryz.results71, go_sem]) rfl ?_
  have BW : Below w.heap.size w ((w.alloc (dob neg A n c e 71)).alloc (dob false A n c e 71)) := Below.step (below_lit _ _) (below_lit _ _)
  exact ⟨rfl, BW⟩
set_option maxHeartbeats 1000000 in
theorem rmayR_as {A : Option Addr} {n c x : Nat} {neg : Bool} {e : Int} {w : World} (h : BR w A n c x) (hn : n ≤ 100000) (b : Bool) (hb : mayR ⟨neg, x, e⟩ = b) :
    Calls Tryz.prog 66 #[.agg #[.bool neg, .slice A n c, .int .i64 e]] w fun en w' => en = .returned (.bool b) ∧ Below w.heap.size w w' := by
  obtain ⟨m, hm⟩ : ∃ m, D.may ⟨neg, x, e⟩ = m := ⟨_, rfl⟩
  unfold mayR at hb
  rw [hm] at hb
  simp only at hb
  have hsz := h.size
  have HM := Lib.hid hm
  cases m
  · obtain rfl : b = false := by rw [← hb]; rfl
    clear hb hm hsz
    go_enter Tryz.func66, Tryz.ntmps66
    go_wp2_with fail
    obtain ⟨V, hV, z0, BW, sW⟩ := frame1 w 71 neg A n c e
    rw [hV]
    clear hV sW
    replace h := h.on BW
    refine (rmay_any false h (by omega) HM.out).mono ?_
    rintro en w1 ⟨rfl, b⟩
    replace z0 := z0.on b
    replace h := h.on b
    replace BW := Below.step BW b
    clear b
    obtain ⟨z0c0, z0c1, z0c2, z0f0, z0f1, z0f2, z0l⟩ := z0.cells
    go_wp2_with fail
    refine (rmay_any false h (by omega) HM.out).mono ?_
    rintro en w2 ⟨rfl, b⟩
    clear z0c0 z0c1 z0c2 z0f0 z0f1 z0f2 z0l
    replace z0 := z0.on b
    replace h := h.on b
    replace BW := Below.step BW b
    clear b
    obtain ⟨z0c0, z0c1, z0c2, z0f0, z0f1, z0f2, z0l⟩ := z0.cells
    go_wp2_with fail
    go_ret
    exact ⟨rfl, BW⟩
  · obtain ⟨k1, k2, k3⟩ := (D.may_iff _).1 hm
    simp only at k1 k2 k3
    obtain ⟨dn, dx, de, hd⟩ : ∃ dn dx de, D.pl ⟨neg, x, e⟩ = ⟨dn, dx, de⟩ := ⟨_, _, _, rfl⟩
    have HD := Lib.hid hd
    have hdl : blen dx ≤ 100000 := by
      have := (pl_bounds hm).1
      rw [hd] at this
      simp only at this
      omega
    obtain ⟨m2, hm2⟩ : ∃ m2, D.may ⟨dn, dx, de⟩ = m2 := ⟨_, rfl⟩
    have HM2 := Lib.hid hm2
    rw [hd, hm2, Bool.true_and] at hb
    clear hm hd hm2
    have hz : ((n : Int) == 0) = decide (x = 0) := by
      rw [Bool.eq_iff_iff]
      simp only [beq_iff_eq, decide_eq_true_eq]
      constructor
      · intro h1
        refine Classical.byContradiction fun h2 => ?_
        have := (blen_pos h2).2
        omega
      · intro h1
        rw [h1, blen_zero] at hsz
        omega
    obtain ⟨t, ht⟩ : ∃ t, decide (e + (n : Int) - 1 ≤ 8000) = t := ⟨_, rfl⟩
    rw [show decide ((blen x : Int) - 1 + e ≤ 8000) = t by rw [← ht]; exact decide_eq_decide.2 (by omega)] at hb
    have hn4 : n ≤ 4096 := by omega
    obtain ⟨z, hzz⟩ : ∃ z, decide (x = 0) = z := ⟨_, rfl⟩
    rw [hzz] at hz hb
    clear hzz hsz k1
    cases m2
    · obtain rfl : b = z := by rw [← hb]; simp
      clear hb ht
      go_enter Tryz.func66, Tryz.ntmps66
      go_wp2_with fail
      obtain ⟨V, hV, z0, BW, sW⟩ := frame1 w 71 neg A n c e
      rw [hV]
      clear hV sW
      replace h := h.on BW
      refine (rmay_any true h (by omega) HM.out).mono ?_
      rintro en w1 ⟨rfl, b⟩
      replace z0 := z0.on b
      replace h := h.on b
      replace BW := Below.step BW b
      clear b
      obtain ⟨z0c0, z0c1, z0c2, z0f0, z0f1, z0f2, z0l⟩ := z0.cells
      go_wp2_with fail
      refine (rplain_any h (by omega) (by omega) (by omega) HD.out).mono ?_
      rintro en w2 ⟨V_rd, v_rd, c_rd, rfl, rd, b⟩
      clear z0c0 z0c1 z0c2 z0f0 z0f1 z0f2 z0l
      replace z0 := z0.on b
      replace h := h.on b
      replace BW := Below.step BW b
      clear b
      have ld := rd.le (k := 100000) hdl
      obtain ⟨z0c0, z0c1, z0c2, z0f0, z0f1, z0f2, z0l⟩ := z0.cells
      go_wp2_with fail
      refine (rmay_any false rd (by omega) HM2.out).mono ?_
      rintro en w3 ⟨rfl, b⟩
      clear z0c0 z0c1 z0c2 z0f0 z0f1 z0f2 z0l
      replace z0 := z0.on b
      replace h := h.on b
      replace rd := rd.on b
      replace BW := Below.step BW b
      clear b
      obtain ⟨z0c0, z0c1, z0c2, z0f0, z0f1, z0f2, z0l⟩ := z0.cells
      go_wp2_with fail
      refine (rmay_any true h (by omega) HM.out).mono ?_
      rintro en w4 ⟨rfl, b⟩
      clear z0c0 z0c1 z0c2 z0f0 z0f1 z0f2 z0l
      replace z0 := z0.on b
      replace h := h.on b
      replace rd := rd.on b
      replace BW := Below.step BW b
      clear b
      obtain ⟨z0c0, z0c1, z0c2, z0f0, z0f1, z0f2, z0l⟩ := z0.cells
      go_wp2_with fail
      go_ret
      exact ⟨rfl, BW⟩
    · cases t
      · obtain rfl : b = z := by rw [← hb]; simp
        clear hb
        go_enter Tryz.func66, Tryz.ntmps66
        go_wp2_with fail
        obtain ⟨V, hV, z0, BW, sW⟩ := frame1 w 71 neg A n c e
        rw [hV]
        clear hV sW
        replace h := h.on BW
        refine (rmay_any true h (by omega) HM.out).mono ?_
        rintro en w1 ⟨rfl, b⟩
        replace z0 := z0.on b
        replace h := h.on b
        replace BW := Below.step BW b
        clear b
        obtain ⟨z0c0, z0c1, z0c2, z0f0, z0f1, z0f2, z0l⟩ := z0.cells
        go_wp2_with fail
        refine (rplain_any h (by omega) (by omega) (by omega) HD.out).mono ?_
        rintro en w2 ⟨V_rd, v_rd, c_rd, rfl, rd, b⟩
        clear z0c0 z0c1 z0c2 z0f0 z0f1 z0f2 z0l
        replace z0 := z0.on b
        replace h := h.on b
        replace BW := Below.step BW b
        clear b
        have ld := rd.le (k := 100000) hdl
        obtain ⟨z0c0, z0c1, z0c2, z0f0, z0f1, z0f2, z0l⟩ := z0.cells
        go_wp2_with fail
        refine (rmay_any true rd (by omega) HM2.out).mono ?_
        rintro en w3 ⟨rfl, b⟩
        clear z0c0 z0c1 z0c2 z0f0 z0f1 z0f2 z0l
        replace z0 := z0.on b
        replace h := h.on b
        replace rd := rd.on b
        replace BW := Below.step BW b
        clear b
        obtain ⟨z0c0, z0c1, z0c2, z0f0, z0f1, z0f2, z0l⟩ := z0.cells
        go_wp2_with fail
        refine (rmay_any true h (by omega) HM.out).mono ?_
        rintro en w4 ⟨rfl, b⟩
        clear z0c0 z0c1 z0c2 z0f0 z0f1 z0f2 z0l
        replace z0 := z0.on b
        replace h := h.on b
        replace rd := rd.on b
        replace BW := Below.step BW b
        clear b
        obtain ⟨z0c0, z0c1, z0c2, z0f0, z0f1, z0f2, z0l⟩ := z0.cells
        go_wp2_with fail
        go_ret
        exact ⟨rfl, BW⟩
      · obtain rfl : b = true := by rw [← hb]; simp
        clear hb hz
        go_enter Tryz.func66, Tryz.ntmps66
        go_wp2_with fail
        obtain ⟨V, hV, z0, BW, sW⟩ := frame1 w 71 neg A n c e
        rw [hV]
        clear hV sW
        replace h := h.on BW
        refine (rmay_any true h (by omega) HM.out).mono ?_
        rintro en w1 ⟨rfl, b⟩
        replace z0 := z0.on b
        replace h := h.on b
        replace BW := Below.step BW b
        clear b
        obtain ⟨z0c0, z0c1, z0c2, z0f0, z0f1, z0f2, z0l⟩ := z0.cells
        go_wp2_with fail
        refine (rplain_any h (by omega) (by omega) (by omega) HD.out).mono ?_
        rintro en w2 ⟨V_rd, v_rd, c_rd, rfl, rd, b⟩
        clear z0c0 z0c1 z0c2 z0f0 z0f1 z0f2 z0l
        replace z0 := z0.on b
        replace h := h.on b
        replace BW := Below.step BW b
        clear b
        have ld := rd.le (k := 100000) hdl
        obtain ⟨z0c0, z0c1, z0c2, z0f0, z0f1, z0f2, z0l⟩ := z0.cells
        go_wp2_with fail
        refine (rmay_any true rd (by omega) HM2.out).mono ?_
        rintro en w3 ⟨rfl, b⟩
        clear z0c0 z0c1 z0c2 z0f0 z0f1 z0f2 z0l
        replace z0 := z0.on b
        replace h := h.on b
        replace rd := rd.on b
        replace BW := Below.step BW b
        clear b
        obtain ⟨z0c0, z0c1, z0c2, z0f0, z0f1, z0f2, z0l⟩ := z0.cells
        go_wp2_with fail
        go_ret
        exact ⟨rfl, BW⟩
theorem efld (w : World) (a : Bool) (A : Option Addr) (n c : Nat) (e : Int) : (Instr.field 71 (.agg #[.bool a, .slice A n c, .int .i64 e]) 2).run Tryz.prog w = .ok (.int .i64 e) w := by kernel_rfl
set_option maxHeartbeats 1000000 in
theorem reven_as {A : Option Addr} {n c x : Nat} {neg : Bool} {e : Int} {w : World} (h : BR w A n c x) (hn : n ≤ 100000) (he1 : -1000000 ≤ e) (he2 : e ≤ 1000000) (p : Int) (b : Bool) (hb : (decide (x = 0) || decide (p < (D.pl ⟨neg, x, e⟩).e)) = b) :
    Calls Tryz.prog 102 #[.agg #[.bool neg, .slice A n c, .int .i64 e], .int .i64 p] w fun en w' => en = .returned (.bool b) ∧ Below w.heap.size w w' := by
  have hsz := h.size
  by_cases h0 : x = 0
  · rw [decide_eq_true h0] at hb
    obtain rfl : b = true := by rw [← hb]; rfl
    obtain rfl : n = 0 := by rw [hsz, h0, blen_zero]
    clear hb hsz
    go_enter Tryz.func102, Tryz.ntmps102
    go_wp2_with fail
    obtain ⟨V, hV, z0, BW, sW⟩ := frame1 w 71 neg A 0 c e
    rw [hV]
    clear hV sW
    replace h := h.on BW
    obtain ⟨z0c0, z0c1, z0c2, z0f0, z0f1, z0f2, z0l⟩ := z0.cells
    go_wp2_with fail
    go_ret
    exact ⟨rfl, BW⟩
  · rw [decide_eq_false h0, Bool.false_or] at hb
    have d0 : ((n : Int) == 0) = false := by
      have := (blen_pos h0).2
      simp
      omega
    obtain ⟨dn, dx, de, hd⟩ : ∃ dn dx de, D.pl ⟨neg, x, e⟩ = ⟨dn, dx, de⟩ := ⟨_, _, _, rfl⟩
    have HD := Lib.hid hd
    rw [hd] at hb
    simp only at hb
    clear hd hsz
    by_cases hp : p < de
    · have d1 : decide (p < de) = true := decide_eq_true hp
      obtain rfl : b = true := by rw [← hb, d1]
      clear hb
      go_enter Tryz.func102, Tryz.ntmps102
      go_wp2_with fail
      obtain ⟨V, hV, z0, BW, sW⟩ := frame1 w 71 neg A n c e
      rw [hV]
      clear hV sW
      replace h := h.on BW
      obtain ⟨z0c0, z0c1, z0c2, z0f0, z0f1, z0f2, z0l⟩ := z0.cells
      go_wp2_with fail
      refine (rplain_any h (by omega) (by omega) (by omega) HD.out).mono ?_
      rintro en w1 ⟨V_rd, v_rd, c_rd, rfl, rd, b⟩
      clear z0c0 z0c1 z0c2 z0f0 z0f1 z0f2 z0l
      replace z0 := z0.on b
      replace h := h.on b
      replace BW := Below.step BW b
      clear b
      have ef := efld w1 dn V_rd v_rd c_rd de
      go_wp2_with fail
      go_ret
      exact ⟨rfl, BW⟩
    · have d1 : decide (p < de) = false := decide_eq_false hp
      obtain rfl : b = false := by rw [← hb, d1]
      clear hb
      go_enter Tryz.func102, Tryz.ntmps102
      go_wp2_with fail
      obtain ⟨V, hV, z0, BW, sW⟩ := frame1 w 71 neg A n c e
      rw [hV]
      clear hV sW
      replace h := h.on BW
      obtain ⟨z0c0, z0c1, z0c2, z0f0, z0f1, z0f2, z0l⟩ := z0.cells
      go_wp2_with fail
      refine (rplain_any h (by omega) (by omega) (by omega) HD.out).mono ?_
      rintro en w1 ⟨V_rd, v_rd, c_rd, rfl, rd, b⟩
      clear z0c0 z0c1 z0c2 z0f0 z0f1 z0f2 z0l
      replace z0 := z0.on b
      replace h := h.on b
      replace BW := Below.step BW b
      clear b
      have ef := efld w1 dn V_rd v_rd c_rd de
      go_wp2_with fail
      go_ret
      exact ⟨rfl, BW⟩
set_option maxHeartbeats 1000000 in
theorem rplace_as {B P W M E H : Nat} {low : Int} (hf : Fm B P W M E H low) {A : Option Addr} {n c x : Nat} {neg : Bool} {e : Int} {w : World} (h : BR w A n c x) (hn : n ≤ 100000) (hm : mayR ⟨neg, x, e⟩ = true) (h0 : x ≠ 0) {p : Int} (hp : plcS P low ⟨neg, x, e⟩ = p) :
    Calls Tryz.prog 103 #[.agg #[.int .i64 (B : Int), .int .i64 (P : Int), .int .i64 (W : Int)], .agg #[.bool neg, .slice A n c, .int .i64 e]] w fun en w' => en = .returned (.int .i64 p) ∧ Below w.heap.size w w' := by
  obtain ⟨b1, b2, b3, b4, b5, b6, b7, b8, b9, b10, b11, b12, b13, b14, b15⟩ := hf.bd
  obtain ⟨k1, k2, k3, k4⟩ := mayR_bd hm h0
  obtain ⟨p1, p2⟩ := plc_bd hf hm h0
  rw [hp] at p1 p2
  have k5 := ((D.may_iff _).1 k1).2.2
  obtain ⟨dn, dx, de, hd⟩ : ∃ dn dx de, D.pl ⟨neg, x, e⟩ = ⟨dn, dx, de⟩ := ⟨_, _, _, rfl⟩
  have HD := Lib.hid hd
  rw [hd] at k2
  have hdl : blen dx ≤ 100000 := by have := ((D.may_iff _).1 k2).1; simp only at this; omega
  obtain ⟨t, ht⟩ : ∃ t : Int, (blen x : Int) - 1 + e = t := ⟨_, rfl⟩
  have HT : Hid (topS ⟨dn, dx, de⟩ = (t, 0)) := by
    have h1 := D.pl_pos (d := ⟨neg, x, e⟩) h0
    rw [hd] at h1
    simp only [D.mk.injEq] at h1
    obtain ⟨_, h2, h3⟩ := h1
    have h4 := blen_div_tz h0
    have h5 := (tz_blen h0).2.2
    have h6 : dx ≠ 0 := by rw [← h2] at h5; omega
    unfold topS
    rw [k2, if_pos rfl, if_neg h6, h2, h3, ← ht]
    simp only at *
    rw [show ((blen (x / 2 ^ tz x) : Nat) : Int) - 1 + (e + (tz x : Int)) = (blen x : Int) - 1 + e by omega]
    exact Lib.hid rfl
  simp only at k3 k4 k5
  have HL := Lib.hid (fun (V : World) => rlow_as hf low rfl V)
  have q1 : IntKind.i64.wrap (t - (P : Int)) = t - (P : Int) := IntWalk.i64_in _ (by omega)
  have q2 : IntKind.i64.wrap (t - (P : Int) + 1) = t - (P : Int) + 1 := IntWalk.i64_in _ (by omega)
  have q3 : max (t - (P : Int) + 1) low = p := by
    rw [← hp]
    unfold plcS
    simp only
    rw [ht]
    congr 1
    omega
  clear hm h0 hp b1 hd k1 k2 k3 ht hf
  go_enter Tryz.func103, Tryz.ntmps103
  go_wp2_with fail
  obtain ⟨V, hV, z0, z1, BW, sW⟩ := fframe2 w 29 71 (B : Int) (P : Int) (W : Int) neg A n c e
  rw [hV]
  clear hV sW
  replace h := h.on BW
  obtain ⟨z0c0, z0c1, z0c2, z0f0, z0f1, z0f2, z0l⟩ := z0.cells
  obtain ⟨z1c0, z1c1, z1c2, z1f0, z1f1, z1f2, z1l⟩ := z1.cells
  refine (rplain_any h (by omega) (by omega) (by omega) HD.out).mono ?_
  rintro en w1 ⟨V_rd, v_rd, c_rd, rfl, rd, b⟩
  clear z0c0 z0c1 z0c2 z0f0 z0f1 z0f2 z0l z1c0 z1c1 z1c2 z1f0 z1f1 z1f2 z1l
  replace z0 := z0.on b
  replace z1 := z1.on b
  replace h := h.on b
  replace BW := Below.step BW b
  clear b
  have ld := rd.le (k := 100000) hdl
  obtain ⟨z0c0, z0c1, z0c2, z0f0, z0f1, z0f2, z0l⟩ := z0.cells
  obtain ⟨z1c0, z1c1, z1c2, z1f0, z1f1, z1f2, z1l⟩ := z1.cells
  go_wp2_with fail
  refine (rtop_as rd (by omega) HT.out).mono ?_
  rintro en w2 ⟨rfl, b⟩
  clear z0c0 z0c1 z0c2 z0f0 z0f1 z0f2 z0l z1c0 z1c1 z1c2 z1f0 z1f1 z1f2 z1l
  replace z0 := z0.on b
  replace z1 := z1.on b
  replace h := h.on b
  replace rd := rd.on b
  replace BW := Below.step BW b
  clear b
  obtain ⟨z0c0, z0c1, z0c2, z0f0, z0f1, z0f2, z0l⟩ := z0.cells
  obtain ⟨z1c0, z1c1, z1c2, z1f0, z1f1, z1f2, z1l⟩ := z1.cells
  go_wp2_with fail
  clear z0c0 z0c1 z0c2 z0f0 z0f1 z0f2 z0l z1c0 z1c1 z1c2 z1f0 z1f1 z1f2 z1l
  replace z0 := z0.on ((Below.refl _ _).drew : Below w2.heap.size w2 w2.drew)
  replace z1 := z1.on ((Below.refl _ _).drew : Below w2.heap.size w2 w2.drew)
  replace h := h.on ((Below.refl _ _).drew : Below w2.heap.size w2 w2.drew)
  replace rd := rd.on ((Below.refl _ _).drew : Below w2.heap.size w2 w2.drew)
  replace BW := Lib.hid (Below.step BW ((Below.refl _ _).drew : Below w2.heap.size w2 w2.drew))
  go_region_held3 (fun w' => w'.cell? ⟨w.heap.size, 0, none⟩ = some (.int .i64 (B : Int)) ∧ w'.cell? ⟨w.heap.size, 1, none⟩ = some (.int .i64 (P : Int)) ∧ w'.cell? ⟨w.heap.size, 2, none⟩ = some (.int .i64 (W : Int)))
    ((first | exact ⟨z0.cells.1, z0.cells.2.1, z0.cells.2.2.1⟩))
    (first
      | (go_at_call 58
         (with_reducible refine (HL.out _).mono ?_)
         rintro en w3 ⟨rfl, b⟩
         replace z0 := z0.on b
         replace z1 := z1.on b
         replace h := h.on b
         replace rd := rd.on b
         replace BW := Lib.hid (Below.step BW.out b)
         clear b))
  replace BW := BW.out
  all_goals go_wp2_with fail
  all_goals go_ret
  all_goals exact ⟨rfl, BW⟩
set_option maxHeartbeats 1000000 in
theorem rbeyond_as {B P W M E H : Nat} {low : Int} (hf : Fm B P W M E H low) (mode : Int) (neg : Bool) (v : Nat) (hv : begS M E H mode neg = v) (w : World) :
    Calls Tryz.prog 70 #[.agg #[.int .i64 (B : Int), .int .i64 (P : Int), .int .i64 (W : Int)], .int .i64 mode, .bool neg] w fun e w' => e = .returned (.int .u64 (v : Int)) ∧ Below w.heap.size w w' := by
  obtain ⟨b1, b2, b3, b4, b5, b6, b7, b8, b9, b10, b11, b12, b13, b14, b15⟩ := hf.bd
  clear b1
  unfold begS tow0 at hv
  by_cases m1 : mode = 1
  · subst m1
    rw [if_pos (by simp)] at hv
    have HG : Hid (sgn H neg (M * E - 1) = v) := Lib.hid hv
    clear hv
    go_enter Tryz.func70, Tryz.ntmps70
    go_wp2_with fail
    obtain ⟨V, hV, z0, BW, sW⟩ := fframe1 w 29 (B : Int) (P : Int) (W : Int)
    rw [hV]
    clear hV sW
    refine (rgreatest_as hf neg v HG.out _).mono ?_
    rintro en w1 ⟨rfl, b⟩
    replace z0 := z0.on b
    replace BW := Below.step BW b
    clear b
    obtain ⟨z0c0, z0c1, z0c2, z0f0, z0f1, z0f2, z0l⟩ := z0.cells
    go_wp2_with fail
    go_ret
    exact ⟨rfl, BW⟩
  · have d1 : (mode == 1) = false := by simpa using m1
    rw [d1] at hv
    by_cases m2 : mode = 2
    · subst m2
      cases neg
      · rw [if_pos (by simp)] at hv
        have HG : Hid (sgn H false (M * E - 1) = v) := Lib.hid hv
        clear hv
        go_enter Tryz.func70, Tryz.ntmps70
        go_wp2_with fail
        obtain ⟨V, hV, z0, BW, sW⟩ := fframe1 w 29 (B : Int) (P : Int) (W : Int)
        rw [hV]
        clear hV sW
        refine (rgreatest_as hf false v HG.out _).mono ?_
        rintro en w1 ⟨rfl, b⟩
        replace z0 := z0.on b
        replace BW := Below.step BW b
        clear b
        obtain ⟨z0c0, z0c1, z0c2, z0f0, z0f1, z0f2, z0l⟩ := z0.cells
        go_wp2_with fail
        go_ret
        exact ⟨rfl, BW⟩
      · rw [if_neg (by simp)] at hv
        have HG : Hid (sgn H true (M * E) = v) := Lib.hid hv
        clear hv
        go_enter Tryz.func70, Tryz.ntmps70
        go_wp2_with fail
        obtain ⟨V, hV, z0, BW, sW⟩ := fframe1 w 29 (B : Int) (P : Int) (W : Int)
        rw [hV]
        clear hV sW
        refine (rinfinite_as hf true v HG.out _).mono ?_
        rintro en w1 ⟨rfl, b⟩
        replace z0 := z0.on b
        replace BW := Below.step BW b
        clear b
        obtain ⟨z0c0, z0c1, z0c2, z0f0, z0f1, z0f2, z0l⟩ := z0.cells
        go_wp2_with fail
        go_ret
        exact ⟨rfl, BW⟩
    · have d2 : (mode == 2) = false := by simpa using m2
      rw [d2] at hv
      by_cases m3 : mode = 3
      · subst m3
        cases neg
        · rw [if_neg (by simp)] at hv
          have HG : Hid (sgn H false (M * E) = v) := Lib.hid hv
          clear hv
          go_enter Tryz.func70, Tryz.ntmps70
          go_wp2_with fail
          obtain ⟨V, hV, z0, BW, sW⟩ := fframe1 w 29 (B : Int) (P : Int) (W : Int)
          rw [hV]
          clear hV sW
          refine (rinfinite_as hf false v HG.out _).mono ?_
          rintro en w1 ⟨rfl, b⟩
          replace z0 := z0.on b
          replace BW := Below.step BW b
          clear b
          obtain ⟨z0c0, z0c1, z0c2, z0f0, z0f1, z0f2, z0l⟩ := z0.cells
          go_wp2_with fail
          go_ret
          exact ⟨rfl, BW⟩
        · rw [if_pos (by simp)] at hv
          have HG : Hid (sgn H true (M * E - 1) = v) := Lib.hid hv
          clear hv
          go_enter Tryz.func70, Tryz.ntmps70
          go_wp2_with fail
          obtain ⟨V, hV, z0, BW, sW⟩ := fframe1 w 29 (B : Int) (P : Int) (W : Int)
          rw [hV]
          clear hV sW
          refine (rgreatest_as hf true v HG.out _).mono ?_
          rintro en w1 ⟨rfl, b⟩
          replace z0 := z0.on b
          replace BW := Below.step BW b
          clear b
          obtain ⟨z0c0, z0c1, z0c2, z0f0, z0f1, z0f2, z0l⟩ := z0.cells
          go_wp2_with fail
          go_ret
          exact ⟨rfl, BW⟩
      · have d3 : (mode == 3) = false := by simpa using m3
        rw [d3, if_neg (by simp)] at hv
        have HG : Hid (sgn H neg (M * E) = v) := Lib.hid hv
        clear hv
        go_enter Tryz.func70, Tryz.ntmps70
        go_wp2_with fail
        obtain ⟨V, hV, z0, BW, sW⟩ := fframe1 w 29 (B : Int) (P : Int) (W : Int)
        rw [hV]
        clear hV sW
        refine (rinfinite_as hf neg v HG.out _).mono ?_
        rintro en w1 ⟨rfl, b⟩
        replace z0 := z0.on b
        replace BW := Below.step BW b
        clear b
        obtain ⟨z0c0, z0c1, z0c2, z0f0, z0f1, z0f2, z0l⟩ := z0.cells
        go_wp2_with fail
        go_ret
        exact ⟨rfl, BW⟩
theorem rword_one (w : World) : Calls Tryz.prog 57 #[.int .u64 1] w (BitsPost w 1) := rword_any 1 (by omega) w
set_option maxHeartbeats 1000000 in
theorem rtiny_as {B P W M E H : Nat} {low : Int} (hf : Fm B P W M E H low) {A : Option Addr} {n c x : Nat} {neg : Bool} {e : Int} {w : World} (h : BR w A n c x) (hn : n ≤ 100000) (b : Bool) (hb : (mayR ⟨neg, x, e⟩ && (!decide (x = 0) && tinyS M low (⟨neg, x, e⟩ : D).vl.natAbs)) = b) :
    Calls Tryz.prog 72 #[.agg #[.int .i64 (B : Int), .int .i64 (P : Int), .int .i64 (W : Int)], .agg #[.bool neg, .slice A n c, .int .i64 e]] w fun en w' => en = .returned (.bool b) ∧ Below w.heap.size w w' := by
  obtain ⟨b1, b2, b3, b4, b5, b6, b7, b8, b9, b10, b11, b12, b13, b14, b15⟩ := hf.bd
  obtain ⟨m, hm⟩ : ∃ m, mayR ⟨neg, x, e⟩ = m := ⟨_, rfl⟩
  rw [hm] at hb
  have HM := Lib.hid hm
  have hsz := h.size
  cases m
  · obtain rfl : b = false := by rw [← hb]; rfl
    clear hb hm hsz b1
    go_enter Tryz.func72, Tryz.ntmps72
    go_wp2_with fail
    obtain ⟨V, hV, z0, z1, BW, sW⟩ := fframe2 w 29 71 (B : Int) (P : Int) (W : Int) neg A n c e
    rw [hV]
    clear hV sW
    replace h := h.on BW
    refine (rmayR_as h hn false HM.out).mono ?_
    rintro en w1 ⟨rfl, b⟩
    replace z0 := z0.on b
    replace z1 := z1.on b
    replace h := h.on b
    replace BW := Below.step BW b
    clear b
    obtain ⟨z0c0, z0c1, z0c2, z0f0, z0f1, z0f2, z0l⟩ := z0.cells
    obtain ⟨z1c0, z1c1, z1c2, z1f0, z1f1, z1f2, z1l⟩ := z1.cells
    go_wp2_with fail
    go_ret
    exact ⟨rfl, BW⟩
  · by_cases h0 : x = 0
    · obtain rfl : b = false := by rw [← hb, decide_eq_true h0]; rfl
      obtain rfl : n = 0 := by rw [hsz, h0, blen_zero]
      clear hb hm hsz b1
      go_enter Tryz.func72, Tryz.ntmps72
      go_wp2_with fail
      obtain ⟨V, hV, z0, z1, BW, sW⟩ := fframe2 w 29 71 (B : Int) (P : Int) (W : Int) neg A 0 c e
      rw [hV]
      clear hV sW
      replace h := h.on BW
      refine (rmayR_as h hn true HM.out).mono ?_
      rintro en w1 ⟨rfl, b⟩
      replace z0 := z0.on b
      replace z1 := z1.on b
      replace h := h.on b
      replace BW := Below.step BW b
      clear b
      obtain ⟨z0c0, z0c1, z0c2, z0f0, z0f1, z0f2, z0l⟩ := z0.cells
      obtain ⟨z1c0, z1c1, z1c2, z1f0, z1f1, z1f2, z1l⟩ := z1.cells
      go_wp2_with fail
      go_ret
      exact ⟨rfl, BW⟩
    · have d0 : ((n : Int) == 0) = false := by
        have := (blen_pos h0).2
        simp
        omega
      obtain ⟨k1, k2, k3, k4⟩ := mayR_bd hm h0
      have k5 := ((D.may_iff _).1 k1).2.2
      have hsv := size_vl (a := ⟨neg, x, e⟩) (by omega)
      obtain ⟨dn, dx, de, hd⟩ : ∃ dn dx de, D.pl ⟨neg, x, e⟩ = ⟨dn, dx, de⟩ := ⟨_, _, _, rfl⟩
      have HD := Lib.hid hd
      rw [hd] at k2 hsv
      have hdl : blen dx ≤ 100000 := by have := ((D.may_iff _).1 k2).1; simp only at this; omega
      obtain ⟨q, hq⟩ : ∃ q : Int, low + (P : Int) - 1 = q := ⟨_, rfl⟩
      obtain ⟨r, hr⟩ : ∃ r : Int, cmpI (⟨false, dx, de⟩ : D).vl (⟨false, 1, q⟩ : D).vl = r := ⟨_, rfl⟩
      have HQ : Hid (cmpS ⟨false, dx, de⟩ ⟨false, 1, q⟩ = (r, 0)) := by
        rw [cmpS_ok (by rw [D.may_iff] at k2 ⊢; exact k2) (may_small (by show 1 < 18446744073709551616; omega) (by show -8192 ≤ q; omega) (by show q ≤ 8192; omega)), hr]
        exact Lib.hid rfl
      have hbr : decide (r < 0) = b := by
        rw [← hb, decide_eq_false h0, Bool.true_and, Bool.not_false, Bool.true_and]
        unfold tinyS
        rw [← hr, hsv]
        have u : (⟨false, 1, q⟩ : D).vl = ((M * 2 ^ (low + 40000).toNat : Nat) : Int) := by
          rw [← hf.pP, ← Nat.pow_add, show P - 1 + (low + 40000).toNat = (q + 40000).toNat by omega, two_cast]
          unfold D.vl D.sz
          simp
        rw [u]
        refine decide_eq_decide.2 ?_
        generalize (⟨neg, x, e⟩ : D).vl.natAbs = z
        generalize M * 2 ^ (low + 40000).toNat = y
        have := cmpI_cases (z : Int) (y : Int)
        omega
      have HL := Lib.hid (fun (V : World) => rlow_as hf low rfl V)
      have q1 : IntKind.i64.wrap (low + (P : Int)) = low + (P : Int) := IntWalk.i64_in _ (by omega)
      have q2 : IntKind.i64.wrap (low + (P : Int) - 1) = q := by rw [IntWalk.i64_in _ (by omega)]; exact hq
      simp only at k3 k4 k5
      clear hb hm hsz b1 k1 k2 k3 hd hsv hr hq h0 hf
      go_enter Tryz.func72, Tryz.ntmps72
      go_wp2_with fail
      obtain ⟨V, hV, z0, z1, BW, sW⟩ := fframe2 w 29 71 (B : Int) (P : Int) (W : Int) neg A n c e
      rw [hV]
      clear hV sW
      replace h := h.on BW
      refine (rmayR_as h hn true HM.out).mono ?_
      rintro en w1 ⟨rfl, b⟩
      replace z0 := z0.on b
      replace z1 := z1.on b
      replace h := h.on b
      replace BW := Below.step BW b
      clear b
      obtain ⟨z0c0, z0c1, z0c2, z0f0, z0f1, z0f2, z0l⟩ := z0.cells
      obtain ⟨z1c0, z1c1, z1c2, z1f0, z1f1, z1f2, z1l⟩ := z1.cells
      go_wp2_with fail
      clear z0c0 z0c1 z0c2 z0f0 z0f1 z0f2 z0l z1c0 z1c1 z1c2 z1f0 z1f1 z1f2 z1l
      replace z0 := z0.on ((Below.refl _ _).drew : Below w1.heap.size w1 w1.drew)
      replace z1 := z1.on ((Below.refl _ _).drew : Below w1.heap.size w1 w1.drew)
      replace h := h.on ((Below.refl _ _).drew : Below w1.heap.size w1 w1.drew)
      replace BW := Lib.hid (Below.step BW ((Below.refl _ _).drew : Below w1.heap.size w1 w1.drew))
      go_region_held3 (fun w' => w'.cell? ⟨w.heap.size, 0, none⟩ = some (.int .i64 (B : Int)) ∧ w'.cell? ⟨w.heap.size, 1, none⟩ = some (.int .i64 (P : Int)) ∧ w'.cell? ⟨w.heap.size, 2, none⟩ = some (.int .i64 (W : Int)) ∧ w'.cell? ⟨(w.heap.size + 1), 0, none⟩ = some (.bool neg) ∧ w'.cell? ⟨(w.heap.size + 1), 1, none⟩ = some (.slice A n c) ∧ w'.cell? ⟨(w.heap.size + 1), 2, none⟩ = some (.int .i64 e))
        ((first | exact ⟨z0.cells.1, z0.cells.2.1, z0.cells.2.2.1, z1.cells.1, z1.cells.2.1, z1.cells.2.2.1⟩))
        (first
          | (go_at_call 56
             (with_reducible refine (rplain_any h (by omega) (by omega) (by omega) HD.out).mono ?_)
             rintro en w2 ⟨V_rd, v_rd, c_rd, rfl, rd, b⟩
             replace z0 := z0.on b
             replace z1 := z1.on b
             replace h := h.on b
             replace BW := Lib.hid (Below.step BW.out b)
             have ld := rd.le (k := 100000) hdl
             clear b)
          | (go_at_call 71
             (with_reducible refine (rsize_as _).mono ?_)
             rintro en w3 ⟨rfl, b⟩
             replace z0 := z0.on b
             replace z1 := z1.on b
             replace h := h.on b
             replace rd := rd.on b
             replace BW := Lib.hid (Below.step BW.out b)
             clear b)
          | (go_at_call 57
             (with_reducible refine (rword_one _).mono ?_)
             rintro en w4 ⟨V_ro, v_ro, c_ro, rfl, ro, b⟩
             replace z0 := z0.on b
             replace z1 := z1.on b
             replace h := h.on b
             replace rd := rd.on b
             replace BW := Lib.hid (Below.step BW.out b)
             have lo := ro.le (k := 100000) (by decide)
             clear b)
          | (go_at_call 58
             (with_reducible refine (HL.out _).mono ?_)
             rintro en w5 ⟨rfl, b⟩
             replace z0 := z0.on b
             replace z1 := z1.on b
             replace h := h.on b
             replace rd := rd.on b
             replace ro := ro.on b
             replace BW := Lib.hid (Below.step BW.out b)
             clear b)
          | (go_at_call 69
             (with_reducible refine (rCmp_as rd ro (by omega) (by omega) HQ).mono ?_)
             rintro en w6 ⟨rfl, b⟩
             replace z0 := z0.on b
             replace z1 := z1.on b
             replace h := h.on b
             replace rd := rd.on b
             replace ro := ro.on b
             replace BW := Lib.hid (Below.step BW.out b)
             clear b))
      replace BW := BW.out
      all_goals go_wp2_with fail
      all_goals go_ret
      all_goals exact ⟨rfl, BW⟩
end Go.Proofs.YtpachoeignpcbaaGreatDoor

namespace Go.Proofs.YtpachoeignpcbaaGreatDoor
open Go.RowKit
set_option linter.unusedVariables false

theorem nframe (w : World) (t tr : TypeId) (a b c : Int) (n : Bool) (A : Option Addr) (l k : Nat) (e : Int) : ∃ W, (((w.alloc (.cells #[.int .i64 a, .int .i64 b, .int .i64 c] t)).alloc (dob n A l k e tr)).alloc (dob false none 0 0 0 tr)).alloc (dob false none 0 0 0 tr) = W ∧
    FB W w.heap.size t a b c ∧ DB W (w.heap.size + 1) tr n A l k e ∧ DB W (w.heap.size + 1 + 1) tr false none 0 0 0 ∧ DB W (w.heap.size + 1 + 1 + 1) tr false none 0 0 0 ∧ Below w.heap.size w W ∧ W.heap.size = w.heap.size + 4 :=
  ⟨_, rfl, (((Box.made w t (notU_int _) (notU_int _) (notU_int _)).alloc _).alloc _).alloc _, ((DB.made _ (by simp) tr n A l k e).alloc _).alloc _, (DB.made _ (by simp) tr false none 0 0 0).alloc _, DB.made _ (by simp) tr false none 0 0 0,
    ((((Below.refl _ _).alloc (by simp <;> omega) _).alloc (by simp <;> omega) _).alloc (by simp <;> omega) _).alloc (by simp <;> omega) _, by simp⟩
/-- two numbers of sign 0 are told. -/
def NBx (w : World) (lx : Nat) (le : Int) (hx : Nat) (he : Int) (en : Ending) (w' : World) : Prop := ∃ A n c A' n' c', en = .returned (.tuple #[.agg #[.bool false, .slice A n c, .int .i64 le], .agg #[.bool false, .slice A' n' c', .int .i64 he]]) ∧ BR w' A n c lx ∧ BR w' A' n' c' hx ∧ Below w.heap.size w w'
def CutNb (w0 : World) (rx : Nat) (re err : Int) (s7 s8 : Value) (wx : World) : Prop :=
  ∃ g A n c, s7 = .pointer (some ⟨g, 0, none⟩) ∧ s8 = .int .i64 err ∧ DB wx g 71 false A n c re ∧ BR wx A n c rx ∧ w0.heap.size ≤ g ∧ Below w0.heap.size w0 wx
theorem DB.made_drew' (w : World) {s : Nat} (hs : w.heap.size = s) (t : TypeId) (neg : Bool) (A : Option Addr) (n c : Nat) (e : Int) : DB (w.alloc (dob neg A n c e t)).drew s t neg A n c e := (DB.made w hs t neg A n c e).on ((Below.refl _ _).drew)
theorem below_more' {w0 w : World} (h : Below w0.heap.size w0 w) (o : Obj) : Below w0.heap.size w0 (w.alloc o) := h.alloc h.size o
theorem tRD : (71 : TypeId) ≠ 4 := by decide
set_option maxHeartbeats 2000000 in
theorem rnb_exact {B P W M E H : Nat} {low : Int} (hf : Fm B P W M E H low) {A : Option Addr} {n c x : Nat} {neg : Bool} {e : Int} {w : World} (h : BR w A n c x) (hn : n ≤ 100000) (hm : mayR ⟨neg, x, e⟩ = true) (h0 : x ≠ 0) {p : Int} (hp : plcS P low ⟨neg, x, e⟩ = p) (he1 : -1000000 ≤ e) (he2 : e ≤ 1000000) {dn : Bool} {dx : Nat} {de : Int} (hd : D.pl ⟨neg, x, e⟩ = ⟨dn, dx, de⟩) (hdl : blen dx ≤ 100000) {lx : Nat} {le : Int} (hfl : floorS ⟨false, dx, de⟩ p = (⟨false, lx, le⟩, false, 0)) (hll : blen lx ≤ 100000) :
    Calls Tryz.prog 101 #[.agg #[.int .i64 (B : Int), .int .i64 (P : Int), .int .i64 (W : Int)], .agg #[.bool neg, .slice A n c, .int .i64 e]] w (NBx w lx le lx le) := by
  have d0 : ((n : Int) == 0) = false := by
    have := (blen_pos h0).2
    have := h.size
    simp
    omega
  have HMR := Lib.hid hm
  have HP := Lib.hid hp
  have HD := Lib.hid hd
  have HF := Lib.hid hfl
  clear hm hp hd hfl
  go_enter Tryz.func101, Tryz.ntmps101
  go_wp2_with fail
  obtain ⟨V, hV, z0, z1, z2, z3, BW, sW⟩ := nframe w 29 71 (B : Int) (P : Int) (W : Int) neg A n c e
  rw [hV]
  clear hV sW
  replace h := h.on BW
  refine (rplace_as hf h hn HMR.out h0 HP.out).mono ?_
  rintro en w1 ⟨rfl, b⟩
  replace z0 := z0.on b
  replace z1 := z1.on b
  replace z2 := z2.on b
  replace z3 := z3.on b
  replace h := h.on b
  replace BW := Below.step BW b
  clear b
  obtain ⟨z0c0, z0c1, z0c2, z0f0, z0f1, z0f2, z0l⟩ := z0.cells
  obtain ⟨z1c0, z1c1, z1c2, z1f0, z1f1, z1f2, z1l⟩ := z1.cells
  go_wp2_with fail
  refine (rplain_any h (by omega) (by omega) (by omega) HD.out).mono ?_
  rintro en w2 ⟨V_rd, v_rd, c_rd, rfl, rd, b⟩
  clear z0c0 z0c1 z0c2 z0f0 z0f1 z0f2 z0l z1c0 z1c1 z1c2 z1f0 z1f1 z1f2 z1l
  replace z0 := z0.on b
  replace z1 := z1.on b
  replace z2 := z2.on b
  replace z3 := z3.on b
  replace h := h.on b
  replace BW := Below.step BW b
  clear b
  have ld := rd.le (k := 100000) hdl
  obtain ⟨z0c0, z0c1, z0c2, z0f0, z0f1, z0f2, z0l⟩ := z0.cells
  obtain ⟨z1c0, z1c1, z1c2, z1f0, z1f1, z1f2, z1l⟩ := z1.cells
  go_wp2_with fail
  refine (rsize_as _).mono ?_
  rintro en w3 ⟨rfl, b⟩
  clear z0c0 z0c1 z0c2 z0f0 z0f1 z0f2 z0l z1c0 z1c1 z1c2 z1f0 z1f1 z1f2 z1l
  replace z0 := z0.on b
  replace z1 := z1.on b
  replace z2 := z2.on b
  replace z3 := z3.on b
  replace h := h.on b
  replace rd := rd.on b
  replace BW := Below.step BW b
  clear b
  obtain ⟨z0c0, z0c1, z0c2, z0f0, z0f1, z0f2, z0l⟩ := z0.cells
  obtain ⟨z1c0, z1c1, z1c2, z1f0, z1f1, z1f2, z1l⟩ := z1.cells
  go_wp2_with fail
  refine (rFloor_as rd (by omega) HF.out).mono ?_
  rintro en w4 ⟨V_rl, v_rl, c_rl, rfl, rl, b⟩
  clear z0c0 z0c1 z0c2 z0f0 z0f1 z0f2 z0l z1c0 z1c1 z1c2 z1f0 z1f1 z1f2 z1l
  replace z0 := z0.on b
  replace z1 := z1.on b
  replace z2 := z2.on b
  replace z3 := z3.on b
  replace h := h.on b
  replace rd := rd.on b
  replace BW := Below.step BW b
  clear b
  have ll := rl.le (k := 100000) hll
  obtain ⟨z0c0, z0c1, z0c2, z0f0, z0f1, z0f2, z0l⟩ := z0.cells
  obtain ⟨z1c0, z1c1, z1c2, z1f0, z1f1, z1f2, z1l⟩ := z1.cells
  go_wp2_with fail
  clear z0c0 z0c1 z0c2 z0f0 z0f1 z0f2 z0l z1c0 z1c1 z1c2 z1f0 z1f1 z1f2 z1l
  obtain ⟨w5, e_w5⟩ : ∃ w', w4.alloc (dob false V_rl v_rl c_rl le 71) = w' := ⟨_, rfl⟩
  have b : Below w4.heap.size w4 w5 := e_w5 ▸ below_lit _ _
  have hs_w5 : w5.heap.size = w4.heap.size + 1 := e_w5 ▸ size_lit w4 _ rfl
  have zl : DB w5 w4.heap.size 71 false V_rl v_rl c_rl le := e_w5 ▸ DB.made w4 rfl 71 false V_rl v_rl c_rl le
  rw [e_w5]
  clear e_w5
  replace z0 := z0.on b
  replace z1 := z1.on b
  replace z2 := z2.on b
  replace z3 := z3.on b
  replace h := h.on b
  replace rd := rd.on b
  replace rl := rl.on b
  replace BW := Below.step BW b
  clear b
  obtain ⟨z2c0, z2c1, z2c2, z2f0, z2f1, z2f2, z2l⟩ := z2.cells
  obtain ⟨z3c0, z3c1, z3c2, z3f0, z3f1, z3f2, z3l⟩ := z3.cells
  obtain ⟨zlc0, zlc1, zlc2, zlf0, zlf1, zlf2, zll⟩ := zl.cells
  go_region
  clear z2c0 z2c1 z2c2 z2f0 z2f1 z2f2 z2l z3c0 z3c1 z3c2 z3f0 z3f1 z3f2 z3l zlc0 zlc1 zlc2 zlf0 zlf1 zlf2 zll
  have y2 := ((z2.put_d false V_rl v_rl c_rl le).other (s := w.heap.size + 1 + 1 + 1) (by omega) (.bool false) (.slice V_rl v_rl c_rl) (.int .i64 le)).on ((Below.refl _ _).drew)
  have y3 := ((z3.other (s := w.heap.size + 1 + 1) (by omega) (.bool false) (.slice V_rl v_rl c_rl) (.int .i64 le)).put_d false V_rl v_rl c_rl le).on ((Below.refl _ _).drew)
  have yl := ((z3.other (s := w.heap.size + 1 + 1) (by omega) (.bool false) (.slice V_rl v_rl c_rl) (.int .i64 le)).br tRD (z2.br tRD rl (.bool false) (.slice V_rl v_rl c_rl) (.int .i64 le)) (.bool false) (.slice V_rl v_rl c_rl) (.int .i64 le)).on ((Below.refl _ _).drew)
  have yh := ((z3.other (s := w.heap.size + 1 + 1) (by omega) (.bool false) (.slice V_rl v_rl c_rl) (.int .i64 le)).br tRD (z2.br tRD rl (.bool false) (.slice V_rl v_rl c_rl) (.int .i64 le)) (.bool false) (.slice V_rl v_rl c_rl) (.int .i64 le)).on ((Below.refl _ _).drew)
  have yb := (below_put3 (below_put3 BW (show w.heap.size ≤ w.heap.size + 1 + 1 by omega) (.bool false) (.slice V_rl v_rl c_rl) (.int .i64 le)) (show w.heap.size ≤ w.heap.size + 1 + 1 + 1 by omega) (.bool false) (.slice V_rl v_rl c_rl) (.int .i64 le)).drew
  obtain ⟨wq, eq_⟩ : ∃ w', (put3 (put3 w5 (w.heap.size + 1 + 1) (.bool false) (.slice V_rl v_rl c_rl) (.int .i64 le)) (w.heap.size + 1 + 1 + 1) (.bool false) (.slice V_rl v_rl c_rl) (.int .i64 le)).drew = w' := ⟨_, rfl⟩
  rw [eq_] at y2 y3 yl yh yb ⊢
  clear eq_
  obtain ⟨p0, p1, p2, _⟩ := y2.cells
  obtain ⟨r0, r1, r2, _⟩ := y3.cells
  go_wp2_with fail
  refine bodyPost_ret (v := .tuple #[.agg #[.bool false, .slice V_rl v_rl c_rl, .int .i64 le], .agg #[.bool false, .slice V_rl v_rl c_rl, .int .i64 le]]) (by simp [results, Tryz.results101, go_sem, p0, p1, p2, r0, r1, r2]) rfl ?_
  exact ⟨_, _, _, _, _, _, rfl, yl, yh, yb⟩
set_option maxHeartbeats 4000000 in
set_option maxRecDepth 100000 in
theorem rnb_lost {B P W M E H : Nat} {low : Int} (hf : Fm B P W M E H low) {A : Option Addr} {n c x : Nat} {neg : Bool} {e : Int} {w : World} (h : BR w A n c x) (hn : n ≤ 100000) (hm : mayR ⟨neg, x, e⟩ = true) (h0 : x ≠ 0) {p : Int} (hp : plcS P low ⟨neg, x, e⟩ = p) (he1 : -1000000 ≤ e) (he2 : e ≤ 1000000) {dn : Bool} {dx : Nat} {de : Int} (hd : D.pl ⟨neg, x, e⟩ = ⟨dn, dx, de⟩) (hdl : blen dx ≤ 100000) {lx : Nat} {le : Int} {hx : Nat} {he : Int} (hfl : floorS ⟨false, dx, de⟩ p = (⟨false, lx, le⟩, true, 0)) (hll : blen lx ≤ 100000) (hadd : addS ⟨false, lx, le⟩ ⟨false, 1, p⟩ = (⟨false, hx, he⟩, 0)) :
    Calls Tryz.prog 101 #[.agg #[.int .i64 (B : Int), .int .i64 (P : Int), .int .i64 (W : Int)], .agg #[.bool neg, .slice A n c, .int .i64 e]] w (NBx w lx le hx he) := by
  have d0 : ((n : Int) == 0) = false := by
    have := (blen_pos h0).2
    have := h.size
    simp
    omega
  have HMR := Lib.hid hm
  have HP := Lib.hid hp
  have HD := Lib.hid hd
  have HF := Lib.hid hfl
  have HA := Lib.hid hadd
  clear hm hp hd hfl hadd
  go_enter Tryz.func101, Tryz.ntmps101
  go_wp2_with fail
  obtain ⟨V, hV, z0, z1, z2, z3, BW, sW⟩ := nframe w 29 71 (B : Int) (P : Int) (W : Int) neg A n c e
  rw [hV]
  clear hV sW
  replace h := h.on BW
  refine (rplace_as hf h hn HMR.out h0 HP.out).mono ?_
  rintro en w1 ⟨rfl, b⟩
  replace z0 := z0.on b
  replace z1 := z1.on b
  replace z2 := z2.on b
  replace z3 := z3.on b
  replace h := h.on b
  replace BW := Below.step BW b
  clear b
  obtain ⟨z0c0, z0c1, z0c2, z0f0, z0f1, z0f2, z0l⟩ := z0.cells
  obtain ⟨z1c0, z1c1, z1c2, z1f0, z1f1, z1f2, z1l⟩ := z1.cells
  go_wp2_with fail
  refine (rplain_any h (by omega) (by omega) (by omega) HD.out).mono ?_
  rintro en w2 ⟨V_rd, v_rd, c_rd, rfl, rd, b⟩
  clear z0c0 z0c1 z0c2 z0f0 z0f1 z0f2 z0l z1c0 z1c1 z1c2 z1f0 z1f1 z1f2 z1l
  replace z0 := z0.on b
  replace z1 := z1.on b
  replace z2 := z2.on b
  replace z3 := z3.on b
  replace h := h.on b
  replace BW := Below.step BW b
  clear b
  have ld := rd.le (k := 100000) hdl
  obtain ⟨z0c0, z0c1, z0c2, z0f0, z0f1, z0f2, z0l⟩ := z0.cells
  obtain ⟨z1c0, z1c1, z1c2, z1f0, z1f1, z1f2, z1l⟩ := z1.cells
  go_wp2_with fail
  refine (rsize_as _).mono ?_
  rintro en w3 ⟨rfl, b⟩
  clear z0c0 z0c1 z0c2 z0f0 z0f1 z0f2 z0l z1c0 z1c1 z1c2 z1f0 z1f1 z1f2 z1l
  replace z0 := z0.on b
  replace z1 := z1.on b
  replace z2 := z2.on b
  replace z3 := z3.on b
  replace h := h.on b
  replace rd := rd.on b
  replace BW := Below.step BW b
  clear b
  obtain ⟨z0c0, z0c1, z0c2, z0f0, z0f1, z0f2, z0l⟩ := z0.cells
  obtain ⟨z1c0, z1c1, z1c2, z1f0, z1f1, z1f2, z1l⟩ := z1.cells
  go_wp2_with fail
  refine (rFloor_as rd (by omega) HF.out).mono ?_
  rintro en w4 ⟨V_rl, v_rl, c_rl, rfl, rl, b⟩
  clear z0c0 z0c1 z0c2 z0f0 z0f1 z0f2 z0l z1c0 z1c1 z1c2 z1f0 z1f1 z1f2 z1l
  replace z0 := z0.on b
  replace z1 := z1.on b
  replace z2 := z2.on b
  replace z3 := z3.on b
  replace h := h.on b
  replace rd := rd.on b
  replace BW := Below.step BW b
  clear b
  have ll := rl.le (k := 100000) hll
  obtain ⟨z0c0, z0c1, z0c2, z0f0, z0f1, z0f2, z0l⟩ := z0.cells
  obtain ⟨z1c0, z1c1, z1c2, z1f0, z1f1, z1f2, z1l⟩ := z1.cells
  go_wp2_with fail
  clear z0c0 z0c1 z0c2 z0f0 z0f1 z0f2 z0l z1c0 z1c1 z1c2 z1f0 z1f1 z1f2 z1l
  obtain ⟨w5, e_w5⟩ : ∃ w', w4.alloc (dob false V_rl v_rl c_rl le 71) = w' := ⟨_, rfl⟩
  have b : Below w4.heap.size w4 w5 := e_w5 ▸ below_lit _ _
  have hs_w5 : w5.heap.size = w4.heap.size + 1 := e_w5 ▸ size_lit w4 _ rfl
  have zl : DB w5 w4.heap.size 71 false V_rl v_rl c_rl le := e_w5 ▸ DB.made w4 rfl 71 false V_rl v_rl c_rl le
  rw [e_w5]
  clear e_w5
  replace z0 := z0.on b
  replace z1 := z1.on b
  replace z2 := z2.on b
  replace z3 := z3.on b
  replace h := h.on b
  replace rd := rd.on b
  replace rl := rl.on b
  replace BW := Below.step BW b
  clear b
  clear hs_w5
  go_cut [10, 11] (CutNb w5 hx he 0)
  case first =>
    have HS : Hid (∀ w', Below w5.heap.size w5 w' → w'.cell? ⟨w4.heap.size, 0, none⟩ = some (.bool false) ∧ w'.cell? ⟨w4.heap.size, 1, none⟩ = some (.slice V_rl v_rl c_rl) ∧ w'.cell? ⟨w4.heap.size, 2, none⟩ = some (.int .i64 le)) := fun w' hb => by
      obtain ⟨p0, p1, p2, _⟩ := (zl.on hb).cells
      exact ⟨p0, p1, p2⟩
    have kk : Below w5.heap.size w5 w5.drew := (Below.refl _ _).drew
    have kd : Below w5.heap.size w5 (w5.alloc (dob false none 0 0 0 71)).drew := (below_more' (Below.refl _ _) _).drew
    have RL := Lib.hid rl
    clear z0 z1 z2 z3 h rd rl zl
    go_region_held3 (fun w' => w'.cell? ⟨w4.heap.size, 0, none⟩ = some (.bool false) ∧ w'.cell? ⟨w4.heap.size, 1, none⟩ = some (.slice V_rl v_rl c_rl) ∧ w'.cell? ⟨w4.heap.size, 2, none⟩ = some (.int .i64 le))
      ((refine HS.out _ ?_; first | (with_reducible assumption) | (with_reducible exact below_more' (by assumption) _) | ((with_reducible refine below_put3 ?_ ?_ _ _ _) <;> first | (with_reducible assumption) | omega)))
      (first
      | (go_at_call 57
         refine (rword_one _).mono ?_
         rintro e v6 ⟨B1, m1, d1, rfl, r1, b6⟩
         have kk := Below.step (show Below w5.heap.size w5 _ from (by first | (with_reducible assumption) | (with_reducible exact below_more' (by assumption) _))) b6
         have hz6 := kk.size
         have r1 := Lib.hid r1
         have b6 := Lib.hid b6)
      | (go_at_call 38
         refine (rAdd_as (RL.out.on (by first | (with_reducible assumption) | (with_reducible exact below_more' (by assumption) _))) (r1.out.on (by first | (with_reducible exact Below.refl _ _) | (with_reducible exact below_lit _ _))) ll (by rw [r1.out.size]; decide) HA).mono ?_
         rintro e v8 ⟨B3, m3, d3, rfl, r3, b8⟩
         have kk := Below.step (show Below w5.heap.size w5 _ from (by first | (with_reducible assumption) | (with_reducible exact below_more' (by assumption) _))) b8
         have hz8 := kk.size
         have r3 := Lib.hid r3
         first | (have zz := ((DB.made_drew' w5 rfl 71 false none 0 0 0).on b6.out).on b8; obtain ⟨p0, p1, p2, g0, g1, g2, _⟩ := zz.cells; have zz := Lib.hid zz) | (have zz := (DB.made v6 rfl 71 false none 0 0 0).on b8; obtain ⟨p0, p1, p2, g0, g1, g2, _⟩ := zz.cells; have zz := Lib.hid zz) | skip
         clear b8))
    all_goals go_wp2_with fail
    all_goals go_meet
    all_goals (first | (exact ⟨_, B3, m3, d3, rfl, rfl, zz.out.put_d false B3 m3 d3 he, zz.out.br tRD r3.out _ _ _, (by first | exact Nat.le_refl _ | omega), below_put3 kk (by omega) _ _ _⟩) | (exact ⟨_, B3, m3, d3, rfl, rfl, DB.made v8 rfl 71 false B3 m3 d3 he, r3.out.on (below_lit _ _), (by omega), below_more' kk _⟩))
  case rest =>
    obtain ⟨gzh, Azh, nzh, czh, rfl, rfl, zh, rh, hg, b⟩ := hcut
    have hlt := z3.cells.2.2.2.2.2.2
    have hne : gzh ≠ w.heap.size + 1 + 1 := by omega
    have hne' : w.heap.size + 1 + 1 ≠ gzh := by omega
    have hne2 : gzh ≠ w.heap.size + 1 + 1 + 1 := by omega
    have hne3 : w.heap.size + 1 + 1 + 1 ≠ gzh := by omega
    clear hlt hg
    obtain ⟨w6, rfl⟩ : ∃ w6 : World, w6 = wc := ⟨_, rfl⟩
    replace z0 := z0.on b
    replace z1 := z1.on b
    replace z2 := z2.on b
    replace z3 := z3.on b
    replace h := h.on b
    replace rd := rd.on b
    replace rl := rl.on b
    replace zl := zl.on b
    replace BW := Below.step BW b
    clear b
    obtain ⟨z2c0, z2c1, z2c2, z2f0, z2f1, z2f2, z2l⟩ := z2.cells
    obtain ⟨z3c0, z3c1, z3c2, z3f0, z3f1, z3f2, z3l⟩ := z3.cells
    obtain ⟨zlc0, zlc1, zlc2, zlf0, zlf1, zlf2, zll⟩ := zl.cells
    obtain ⟨zhc0, zhc1, zhc2, zhf0, zhf1, zhf2, zhl⟩ := zh.cells
    go_wp2_with fail
    go_region
    clear z2c0 z2c1 z2c2 z2f0 z2f1 z2f2 z2l z3c0 z3c1 z3c2 z3f0 z3f1 z3f2 z3l zlc0 zlc1 zlc2 zlf0 zlf1 zlf2 zll zhc0 zhc1 zhc2 zhf0 zhf1 zhf2 zhl
    have y2 := ((z2.put_d false V_rl v_rl c_rl le).other (s := w.heap.size + 1 + 1 + 1) (by omega) (.bool false) (.slice Azh nzh czh) (.int .i64 he)).on ((Below.refl _ _).drew)
    have y3 := ((z3.other (s := w.heap.size + 1 + 1) (by omega) (.bool false) (.slice V_rl v_rl c_rl) (.int .i64 le)).put_d false Azh nzh czh he).on ((Below.refl _ _).drew)
    have yl := ((z3.other (s := w.heap.size + 1 + 1) (by omega) (.bool false) (.slice V_rl v_rl c_rl) (.int .i64 le)).br tRD (z2.br tRD rl (.bool false) (.slice V_rl v_rl c_rl) (.int .i64 le)) (.bool false) (.slice Azh nzh czh) (.int .i64 he)).on ((Below.refl _ _).drew)
    have yh := ((z3.other (s := w.heap.size + 1 + 1) (by omega) (.bool false) (.slice V_rl v_rl c_rl) (.int .i64 le)).br tRD (z2.br tRD rh (.bool false) (.slice V_rl v_rl c_rl) (.int .i64 le)) (.bool false) (.slice Azh nzh czh) (.int .i64 he)).on ((Below.refl _ _).drew)
    have yb := (below_put3 (below_put3 BW (show w.heap.size ≤ w.heap.size + 1 + 1 by omega) (.bool false) (.slice V_rl v_rl c_rl) (.int .i64 le)) (show w.heap.size ≤ w.heap.size + 1 + 1 + 1 by omega) (.bool false) (.slice Azh nzh czh) (.int .i64 he)).drew
    obtain ⟨wq, eq_⟩ : ∃ w', (put3 (put3 w6 (w.heap.size + 1 + 1) (.bool false) (.slice V_rl v_rl c_rl) (.int .i64 le)) (w.heap.size + 1 + 1 + 1) (.bool false) (.slice Azh nzh czh) (.int .i64 he)).drew = w' := ⟨_, rfl⟩
    rw [eq_] at y2 y3 yl yh yb ⊢
    clear eq_
    obtain ⟨p0, p1, p2, _⟩ := y2.cells
    obtain ⟨r0, r1, r2, _⟩ := y3.cells
    go_wp2_with fail
    refine bodyPost_ret (v := .tuple #[.agg #[.bool false, .slice V_rl v_rl c_rl, .int .i64 le], .agg #[.bool false, .slice Azh nzh czh, .int .i64 he]]) (by simp [results, Tryz.results101, go_sem, p0, p1, p2, r0, r1, r2]) rfl ?_
    exact ⟨_, _, _, _, _, _, rfl, yl, yh, yb⟩
set_option maxHeartbeats 1000000 in
theorem rnb_zero {B P W M E H : Nat} {low : Int} (hf : Fm B P W M E H low) {A : Option Addr} {n c x : Nat} {neg : Bool} {e : Int} {w : World} (h : BR w A n c x) (hn : n ≤ 100000) (h0 : x = 0) :
    Calls Tryz.prog 101 #[.agg #[.int .i64 (B : Int), .int .i64 (P : Int), .int .i64 (W : Int)], .agg #[.bool neg, .slice A n c, .int .i64 e]] w (NBx w 0 0 0 0) := by
  obtain rfl : n = 0 := by rw [h.size, h0, blen_zero]
  clear h0 hn hf
  go_enter Tryz.func101, Tryz.ntmps101
  go_wp2_with fail
  refine bodyPost_ret (v := .tuple #[.agg #[.bool false, .slice none 0 0, .int .i64 0], .agg #[.bool false, .slice none 0 0, .int .i64 0]]) (by simp [results, Tryz.results101, go_sem]) rfl ?_
  exact ⟨_, _, _, _, _, _, rfl, BR.none_ _, BR.none_ _, ((((Below.refl _ _).alloc (by simp <;> omega) _).alloc (by simp <;> omega) _).alloc (by simp <;> omega) _).alloc (by simp <;> omega) _⟩
/-- THE NEIGHBOURS of a size. -/
theorem rnb_as {B P W M E H : Nat} {low : Int} (hf : Fm B P W M E H low) {A : Option Addr} {n c x : Nat} {neg : Bool} {e : Int} {w : World} (h : BR w A n c x) (hn : n ≤ 100000) (hm : mayR ⟨neg, x, e⟩ = true) (h0 : x ≠ 0) {p : Int} (hp : plcS P low ⟨neg, x, e⟩ = p) {lx hx : Nat} {le he : Int}
    (hlow : D.pl ⟨false, (⟨neg, x, e⟩ : D).vl.natAbs / 2 ^ (p + 40000).toNat, p⟩ = ⟨false, lx, le⟩)
    (hhigh : D.pl ⟨false, (⟨neg, x, e⟩ : D).vl.natAbs / 2 ^ (p + 40000).toNat + (if (⟨neg, x, e⟩ : D).vl.natAbs % 2 ^ (p + 40000).toNat = 0 then 0 else 1), p⟩ = ⟨false, hx, he⟩) :
    Calls Tryz.prog 101 #[.agg #[.int .i64 (B : Int), .int .i64 (P : Int), .int .i64 (W : Int)], .agg #[.bool neg, .slice A n c, .int .i64 e]] w (NBx w lx le hx he) := by
  obtain ⟨b1, b2, b3, b4, b5, b6, b7, b8, b9, b10, b11, b12, b13, b14, b15⟩ := hf.bd
  obtain ⟨k1, k2, k3, k4⟩ := mayR_bd hm h0
  obtain ⟨p1, p2⟩ := plc_bd hf hm h0
  have k5 := ((D.may_iff _).1 k1).2.2
  have hplc := plc_cell (P := P) (low := low) (a := ⟨neg, x, e⟩) h0 (by omega)
  rw [hp] at p1 p2 hplc
  have hq := (flq hf (⟨neg, x, e⟩ : D).vl.natAbs).1
  rw [← hplc] at hq
  obtain ⟨dn, dx, de, hd⟩ : ∃ dn dx de, D.pl ⟨neg, x, e⟩ = ⟨dn, dx, de⟩ := ⟨_, _, _, rfl⟩
  have hdl : blen dx ≤ 100000 := by
    rw [hd] at k2
    have := ((D.may_iff _).1 k2).1
    simp only at this
    omega
  have hfl := size_floor (a := ⟨neg, x, e⟩) k2 (by omega) (p := p) ((plB_iff p).2 ⟨by omega, by omega⟩)
  rw [hd] at hfl
  simp only at hfl
  rw [hlow] at hfl
  obtain ⟨m1, m2, m3, m4, m5, m6, m7⟩ := nb_may (n := (⟨neg, x, e⟩ : D).vl.natAbs / 2 ^ (p + 40000).toNat) (p := p) (by omega) (by omega) (by omega)
  rw [hlow] at m5
  simp only at m5 k3 k4 k5
  by_cases hr : (⟨neg, x, e⟩ : D).vl.natAbs % 2 ^ (p + 40000).toNat = 0
  · rw [if_pos hr, Nat.add_zero, hlow] at hhigh
    simp only [D.mk.injEq, true_and] at hhigh
    obtain ⟨rfl, rfl⟩ := hhigh
    rw [decide_eq_false (by simpa using hr)] at hfl
    exact rnb_exact hf h hn hm h0 hp (by omega) (by omega) hd hdl hfl (by omega)
  · rw [if_neg hr] at hhigh
    rw [decide_eq_true hr] at hfl
    have hadd := nb_next (n := (⟨neg, x, e⟩ : D).vl.natAbs / 2 ^ (p + 40000).toNat) (p := p) (by omega) (by omega) (by omega)
    rw [hlow, hhigh] at hadd
    exact rnb_lost hf h hn hm h0 hp (by omega) (by omega) hd hdl hfl (by omega) hadd
end Go.Proofs.YtpachoeignpcbaaGreatDoor

namespace Go.Proofs.YtpachoeignpcbaaGreatDoor
open Go.RowKit
set_option linter.unusedVariables false

theorem cframe (w : World) (t tr : TypeId) (a b c : Int) (n : Bool) (A : Option Addr) (l k : Nat) (e : Int) : ∃ W, ((w.alloc (.cells #[.int .i64 a, .int .i64 b, .int .i64 c] t)).alloc (dob n A l k e tr)).alloc (dob false none 0 0 0 tr) = W ∧
    FB W w.heap.size t a b c ∧ DB W (w.heap.size + 1) tr n A l k e ∧ DB W (w.heap.size + 1 + 1) tr false none 0 0 0 ∧ Below w.heap.size w W ∧ W.heap.size = w.heap.size + 3 :=
  ⟨_, rfl, ((Box.made w t (notU_int _) (notU_int _) (notU_int _)).alloc _).alloc _, (DB.made _ (by simp) tr n A l k e).alloc _, DB.made _ (by simp) tr false none 0 0 0,
    (((Below.refl _ _).alloc (by simp <;> omega) _).alloc (by simp <;> omega) _).alloc (by simp <;> omega) _, by simp⟩
set_option maxHeartbeats 2000000 in
theorem rchosen_walk {B P W M E H : Nat} {low : Int} (hf : Fm B P W M E H low) {A : Option Addr} {n c x : Nat} {neg : Bool} {e : Int} {w : World} (h : BR w A n c x) (hn : n ≤ 100000) (mode : Int) {lx hx bx rx : Nat} {le he be near p re : Int} {dn : Bool} {dx : Nat} {de : Int} {ev up : Bool}
    (HNB : Hid (∀ V, BR V A n c x → Calls Tryz.prog 101 #[.agg #[.int .i64 (B : Int), .int .i64 (P : Int), .int .i64 (W : Int)], .agg #[.bool neg, .slice A n c, .int .i64 e]] V (NBx V lx le hx he)))
    (hll : blen lx ≤ 100000) (hlh : blen hx ≤ 100000) (HD : Hid (D.pl ⟨neg, x, e⟩ = ⟨dn, dx, de⟩)) (hdl : blen dx ≤ 100000) (he1 : -1000000 ≤ e) (he2 : e ≤ 1000000) (hd1 : -1000000 ≤ de) (hd2 : de ≤ 1000000)
    (HA : Hid (addS ⟨false, lx, le⟩ ⟨false, hx, he⟩ = (⟨false, bx, be⟩, 0))) (hbl : blen bx ≤ 100000) (HC : Hid (cmpS ⟨false, dx, de + 1⟩ ⟨false, bx, be⟩ = (near, 0))) (hnr : near = -1 ∨ near = 0 ∨ near = 1)
    (hm : mayR ⟨neg, x, e⟩ = true) (h0 : x ≠ 0) (HP : Hid (plcS P low ⟨neg, x, e⟩ = p)) (HE : Hid ((decide (lx = 0) || decide (p < (D.pl ⟨false, lx, le⟩).e)) = ev)) (hl1 : -1000000 ≤ le) (hl2 : le ≤ 1000000) (HU : Hid (upR mode neg near ev = up)) (HR : Hid ((if up then hx else lx) = rx ∧ (if up then he else le) = re)) :
    Calls Tryz.prog 67 #[.agg #[.int .i64 (B : Int), .int .i64 (P : Int), .int .i64 (W : Int)], .int .i64 mode, .agg #[.bool neg, .slice A n c, .int .i64 e]] w (RPx w false rx re) := by
  have q1 : IntKind.i64.wrap (de + 1) = de + 1 := IntWalk.i64_in _ (by omega)
  have HMR := Lib.hid hm
  clear hm
  go_enter Tryz.func67, Tryz.ntmps67
  go_wp2_with fail
  obtain ⟨V, hV, z0, z1, z2, BW, sW⟩ := cframe w 29 71 (B : Int) (P : Int) (W : Int) neg A n c e
  rw [hV]
  clear hV sW
  replace h := h.on BW
  refine (HNB.out _ h).mono ?_
  rintro en w1 ⟨VL, vl, cl, VH, vh, ch, rfl, rl, rh, b⟩
  replace z0 := z0.on b
  replace z1 := z1.on b
  replace z2 := z2.on b
  replace h := h.on b
  replace BW := Below.step BW b
  clear b
  have ll := rl.le (k := 100000) hll
  have lh := rh.le (k := 100000) hlh
  obtain ⟨z0c0, z0c1, z0c2, z0f0, z0f1, z0f2, z0l⟩ := z0.cells
  obtain ⟨z1c0, z1c1, z1c2, z1f0, z1f1, z1f2, z1l⟩ := z1.cells
  go_upto_region 2 with fail
  clear z0c0 z0c1 z0c2 z0f0 z0f1 z0f2 z0l z1c0 z1c1 z1c2 z1f0 z1f1 z1f2 z1l
  obtain ⟨w2, e_w2⟩ : ∃ w', w1.alloc (dob false VL vl cl le 71) = w' := ⟨_, rfl⟩
  have b : Below w1.heap.size w1 w2 := e_w2 ▸ below_lit _ _
  have hs_w2 : w2.heap.size = w1.heap.size + 1 := e_w2 ▸ size_lit w1 _ rfl
  have zl : DB w2 w1.heap.size 71 false VL vl cl le := e_w2 ▸ DB.made w1 rfl 71 false VL vl cl le
  rw [e_w2]
  clear e_w2
  replace z0 := z0.on b
  replace z1 := z1.on b
  replace z2 := z2.on b
  replace h := h.on b
  replace rl := rl.on b
  replace rh := rh.on b
  replace BW := Below.step BW b
  clear b
  obtain ⟨w3, e_w3⟩ : ∃ w', w2.alloc (dob false VH vh ch he 71) = w' := ⟨_, rfl⟩
  have b : Below w2.heap.size w2 w3 := e_w3 ▸ below_lit _ _
  have hs_w3 : w3.heap.size = (w1.heap.size + 1) + 1 := e_w3 ▸ size_lit w2 _ hs_w2
  have zh : DB w3 (w1.heap.size + 1) 71 false VH vh ch he := e_w3 ▸ DB.made w2 hs_w2 71 false VH vh ch he
  rw [e_w3]
  clear e_w3
  replace z0 := z0.on b
  replace z1 := z1.on b
  replace z2 := z2.on b
  replace h := h.on b
  replace rl := rl.on b
  replace rh := rh.on b
  replace zl := zl.on b
  replace BW := Below.step BW b
  clear b
  clear hs_w2 hs_w3
  obtain ⟨z1c0, z1c1, z1c2, z1f0, z1f1, z1f2, z1l⟩ := z1.cells
  go_wp2_with fail
  refine (rplain_any h (by omega) he1 he2 HD.out).mono ?_
  rintro en w4 ⟨V_rd, v_rd, c_rd, rfl, rd, b⟩
  clear z1c0 z1c1 z1c2 z1f0 z1f1 z1f2 z1l
  replace z0 := z0.on b
  replace z1 := z1.on b
  replace z2 := z2.on b
  replace h := h.on b
  replace rl := rl.on b
  replace rh := rh.on b
  replace zl := zl.on b
  replace zh := zh.on b
  replace BW := Below.step BW b
  clear b
  have ld := rd.le (k := 100000) hdl
  obtain ⟨z1c0, z1c1, z1c2, z1f0, z1f1, z1f2, z1l⟩ := z1.cells
  go_wp2_with fail
  refine (rsize_as _).mono ?_
  rintro en w5 ⟨rfl, b⟩
  clear z1c0 z1c1 z1c2 z1f0 z1f1 z1f2 z1l
  replace z0 := z0.on b
  replace z1 := z1.on b
  replace z2 := z2.on b
  replace h := h.on b
  replace rl := rl.on b
  replace rh := rh.on b
  replace zl := zl.on b
  replace zh := zh.on b
  replace rd := rd.on b
  replace BW := Below.step BW b
  clear b
  obtain ⟨t0, t1, t2, u0, u1, u2, _⟩ := (DB.made w5 rfl 71 false V_rd v_rd c_rd de).cells
  go_upto_region 4 with fail
  clear t0 t1 t2 u0 u1 u2
  obtain ⟨w6, e_w6⟩ : ∃ w', w5.alloc (dob false V_rd v_rd c_rd (de + 1) 71) = w' := ⟨_, rfl⟩
  have b : Below w5.heap.size w5 w6 := e_w6 ▸ below_lit _ _
  have hs_w6 : w6.heap.size = w5.heap.size + 1 := e_w6 ▸ size_lit w5 _ rfl
  have zt : DB w6 w5.heap.size 71 false V_rd v_rd c_rd (de + 1) := e_w6 ▸ DB.made w5 rfl 71 false V_rd v_rd c_rd (de + 1)
  rw [e_w6]
  clear e_w6
  replace z0 := z0.on b
  replace z1 := z1.on b
  replace z2 := z2.on b
  replace h := h.on b
  replace rl := rl.on b
  replace rh := rh.on b
  replace zl := zl.on b
  replace zh := zh.on b
  replace rd := rd.on b
  replace BW := Below.step BW b
  clear b
  clear hs_w6
  obtain ⟨zlc0, zlc1, zlc2, zlf0, zlf1, zlf2, zll⟩ := zl.cells
  obtain ⟨zhc0, zhc1, zhc2, zhf0, zhf1, zhf2, zhl⟩ := zh.cells
  go_wp2_with fail
  refine (rAdd_as rl rh (by omega) (by omega) HA).mono ?_
  rintro en w7 ⟨V_rb, v_rb, c_rb, rfl, rb, b⟩
  clear zlc0 zlc1 zlc2 zlf0 zlf1 zlf2 zll zhc0 zhc1 zhc2 zhf0 zhf1 zhf2 zhl
  replace z0 := z0.on b
  replace z1 := z1.on b
  replace z2 := z2.on b
  replace h := h.on b
  replace rl := rl.on b
  replace rh := rh.on b
  replace zl := zl.on b
  replace zh := zh.on b
  replace rd := rd.on b
  replace zt := zt.on b
  replace BW := Below.step BW b
  clear b
  have lb := rb.le (k := 100000) hbl
  go_upto_region 5 with fail
  obtain ⟨w8, e_w8⟩ : ∃ w', w7.alloc (dob false V_rb v_rb c_rb be 71) = w' := ⟨_, rfl⟩
  have b : Below w7.heap.size w7 w8 := e_w8 ▸ below_lit _ _
  have hs_w8 : w8.heap.size = w7.heap.size + 1 := e_w8 ▸ size_lit w7 _ rfl
  have zb : DB w8 w7.heap.size 71 false V_rb v_rb c_rb be := e_w8 ▸ DB.made w7 rfl 71 false V_rb v_rb c_rb be
  rw [e_w8]
  clear e_w8
  replace z0 := z0.on b
  replace z1 := z1.on b
  replace z2 := z2.on b
  replace h := h.on b
  replace rl := rl.on b
  replace rh := rh.on b
  replace zl := zl.on b
  replace zh := zh.on b
  replace rd := rd.on b
  replace zt := zt.on b
  replace rb := rb.on b
  replace BW := Below.step BW b
  clear b
  clear hs_w8
  obtain ⟨ztc0, ztc1, ztc2, ztf0, ztf1, ztf2, ztl⟩ := zt.cells
  obtain ⟨zbc0, zbc1, zbc2, zbf0, zbf1, zbf2, zbl⟩ := zb.cells
  go_wp2_with fail
  refine (rCmp_as rd rb (by omega) (by omega) HC).mono ?_
  rintro en w9 ⟨rfl, b⟩
  clear ztc0 ztc1 ztc2 ztf0 ztf1 ztf2 ztl zbc0 zbc1 zbc2 zbf0 zbf1 zbf2 zbl
  replace z0 := z0.on b
  replace z1 := z1.on b
  replace z2 := z2.on b
  replace h := h.on b
  replace rl := rl.on b
  replace rh := rh.on b
  replace zl := zl.on b
  replace zh := zh.on b
  replace rd := rd.on b
  replace zt := zt.on b
  replace rb := rb.on b
  replace zb := zb.on b
  replace BW := Below.step BW b
  clear b
  clear rd rb zt zb
  clear HC HA HD q1 HNB
  have hu := HU.out
  unfold upR at hu
  by_cases m0 : mode = 0
  · subst m0
    rw [if_pos rfl] at hu
    rcases hnr with rfl | rfl | rfl
    · rw [show (decide ((0 : Int) < -1) || (decide ((-1 : Int) = 0) && !ev)) = false from rfl] at hu
      obtain rfl : up = false := by first | exact hu.symm | simpa using hu.symm
      clear hu HU
      have hr := HR.out
      rw [if_neg (by decide), if_neg (by decide)] at hr
      obtain ⟨rfl, rfl⟩ := hr
      clear HR
      obtain ⟨z0c0, z0c1, z0c2, z0f0, z0f1, z0f2, z0l⟩ := z0.cells
      obtain ⟨z1c0, z1c1, z1c2, z1f0, z1f1, z1f2, z1l⟩ := z1.cells
      obtain ⟨z2c0, z2c1, z2c2, z2f0, z2f1, z2f2, z2l⟩ := z2.cells
      obtain ⟨zlc0, zlc1, zlc2, zlf0, zlf1, zlf2, zll⟩ := zl.cells
      obtain ⟨zhc0, zhc1, zhc2, zhf0, zhf1, zhf2, zhl⟩ := zh.cells
      go_wp2_with fail
      go_region
      go_wp2_with fail
      clear z0c0 z0c1 z0c2 z0f0 z0f1 z0f2 z0l z1c0 z1c1 z1c2 z1f0 z1f1 z1f2 z1l z2c0 z2c1 z2c2 z2f0 z2f1 z2f2 z2l zlc0 zlc1 zlc2 zlf0 zlf1 zlf2 zll zhc0 zhc1 zhc2 zhf0 zhf1 zhf2 zhl
      have y2 := z2.put_d false VL vl cl le
      have yl := z2.br tRD rl (.bool false) (.slice VL vl cl) (.int .i64 le)
      have yb := below_put3 BW (show w.heap.size ≤ w.heap.size + 1 + 1 by omega) (.bool false) (.slice VL vl cl) (.int .i64 le)
      replace y2 := y2.on ((Below.refl _ _).drew)
      replace yl := yl.on ((Below.refl _ _).drew)
      replace yb := yb.drew
      obtain ⟨wq, eq_⟩ : ∃ w', (put3 w9 (w.heap.size + 1 + 1) (.bool false) (.slice VL vl cl) (.int .i64 le)).drew = w' := ⟨_, rfl⟩
      rw [eq_] at y2 yl yb ⊢
      clear eq_
      obtain ⟨p0, p1, p2, _⟩ := y2.cells
      refine bodyPost_ret (v := .agg #[.bool false, .slice VL vl cl, .int .i64 le]) (by simp [results, Tryz.results67, go_sem, p0, p1, p2]) rfl ?_
      exact ⟨_, _, _, rfl, yl, yb⟩
    · cases ev
      ·
        obtain rfl : up = true := by first | exact hu.symm | simpa using hu.symm
        clear hu HU
        have hr := HR.out
        rw [if_pos rfl, if_pos rfl] at hr
        obtain ⟨rfl, rfl⟩ := hr
        clear HR
        obtain ⟨z0c0, z0c1, z0c2, z0f0, z0f1, z0f2, z0l⟩ := z0.cells
        obtain ⟨z1c0, z1c1, z1c2, z1f0, z1f1, z1f2, z1l⟩ := z1.cells
        obtain ⟨z2c0, z2c1, z2c2, z2f0, z2f1, z2f2, z2l⟩ := z2.cells
        obtain ⟨zlc0, zlc1, zlc2, zlf0, zlf1, zlf2, zll⟩ := zl.cells
        obtain ⟨zhc0, zhc1, zhc2, zhf0, zhf1, zhf2, zhl⟩ := zh.cells
        go_upto_region 9 with fail
        clear z0c0 z0c1 z0c2 z0f0 z0f1 z0f2 z0l z1c0 z1c1 z1c2 z1f0 z1f1 z1f2 z1l z2c0 z2c1 z2c2 z2f0 z2f1 z2f2 z2l zlc0 zlc1 zlc2 zlf0 zlf1 zlf2 zll zhc0 zhc1 zhc2 zhf0 zhf1 zhf2 zhl
        replace z0 := z0.on ((Below.refl _ _).drew : Below w9.heap.size w9 w9.drew)
        replace z1 := z1.on ((Below.refl _ _).drew : Below w9.heap.size w9 w9.drew)
        replace z2 := z2.on ((Below.refl _ _).drew : Below w9.heap.size w9 w9.drew)
        replace h := h.on ((Below.refl _ _).drew : Below w9.heap.size w9 w9.drew)
        replace rl := rl.on ((Below.refl _ _).drew : Below w9.heap.size w9 w9.drew)
        replace rh := rh.on ((Below.refl _ _).drew : Below w9.heap.size w9 w9.drew)
        replace zl := zl.on ((Below.refl _ _).drew : Below w9.heap.size w9 w9.drew)
        replace zh := zh.on ((Below.refl _ _).drew : Below w9.heap.size w9 w9.drew)
        replace BW := Lib.hid (Below.step BW ((Below.refl _ _).drew : Below w9.heap.size w9 w9.drew))
        go_region_held3 (fun w' => w'.cell? ⟨w.heap.size, 0, none⟩ = some (.int .i64 (B : Int)) ∧ w'.cell? ⟨w.heap.size, 1, none⟩ = some (.int .i64 (P : Int)) ∧ w'.cell? ⟨w.heap.size, 2, none⟩ = some (.int .i64 (W : Int)) ∧ w'.cell? ⟨(w.heap.size + 1), 0, none⟩ = some (.bool neg) ∧ w'.cell? ⟨(w.heap.size + 1), 1, none⟩ = some (.slice A n c) ∧ w'.cell? ⟨(w.heap.size + 1), 2, none⟩ = some (.int .i64 e) ∧ w'.cell? ⟨w1.heap.size, 0, none⟩ = some (.bool false) ∧ w'.cell? ⟨w1.heap.size, 1, none⟩ = some (.slice VL vl cl) ∧ w'.cell? ⟨w1.heap.size, 2, none⟩ = some (.int .i64 le))
          ((first | exact ⟨z0.cells.1, z0.cells.2.1, z0.cells.2.2.1, z1.cells.1, z1.cells.2.1, z1.cells.2.2.1, zl.cells.1, zl.cells.2.1, zl.cells.2.2.1⟩))
          (first
            | (go_at_call 103
               (with_reducible refine (rplace_as hf h hn HMR.out h0 HP.out).mono ?_)
               rintro en w10 ⟨rfl, b⟩
               replace z0 := z0.on b
               replace z1 := z1.on b
               replace z2 := z2.on b
               replace h := h.on b
               replace rl := rl.on b
               replace rh := rh.on b
               replace zl := zl.on b
               replace zh := zh.on b
               replace BW := Lib.hid (Below.step BW.out b)
               clear b)
            | (go_at_call 102
               (with_reducible refine (reven_as rl (by omega) hl1 hl2 p _ HE.out).mono ?_)
               rintro en w11 ⟨rfl, b⟩
               replace z0 := z0.on b
               replace z1 := z1.on b
               replace z2 := z2.on b
               replace h := h.on b
               replace rl := rl.on b
               replace rh := rh.on b
               replace zl := zl.on b
               replace zh := zh.on b
               replace BW := Lib.hid (Below.step BW.out b)
               clear b))
        replace BW := BW.out
        all_goals (
          obtain ⟨z2c0, z2c1, z2c2, z2f0, z2f1, z2f2, z2l⟩ := z2.cells
          obtain ⟨zlc0, zlc1, zlc2, zlf0, zlf1, zlf2, zll⟩ := zl.cells
          obtain ⟨zhc0, zhc1, zhc2, zhf0, zhf1, zhf2, zhl⟩ := zh.cells
          go_wp2_with fail
          clear z2c0 z2c1 z2c2 z2f0 z2f1 z2f2 z2l zlc0 zlc1 zlc2 zlf0 zlf1 zlf2 zll zhc0 zhc1 zhc2 zhf0 zhf1 zhf2 zhl
          have y2 := z2.put_d false VH vh ch he
          have yl := z2.br tRD rh (.bool false) (.slice VH vh ch) (.int .i64 he)
          have yb := below_put3 BW (show w.heap.size ≤ w.heap.size + 1 + 1 by omega) (.bool false) (.slice VH vh ch) (.int .i64 he)
          obtain ⟨wq, e1_, e2_⟩ := put3_named w11 (w.heap.size + 1 + 1) (.bool false) (.slice VH vh ch) (.int .i64 he)
          rw [e2_] at y2 yl yb
          rw [e1_]
          clear e1_ e2_
          obtain ⟨p0, p1, p2, _⟩ := y2.cells
          refine bodyPost_ret (v := .agg #[.bool false, .slice VH vh ch, .int .i64 he]) (by simp [results, Tryz.results67, go_sem, p0, p1, p2]) rfl ?_
          exact ⟨_, _, _, rfl, yl, yb⟩)
      ·
        obtain rfl : up = false := by first | exact hu.symm | simpa using hu.symm
        clear hu HU
        have hr := HR.out
        rw [if_neg (by decide), if_neg (by decide)] at hr
        obtain ⟨rfl, rfl⟩ := hr
        clear HR
        obtain ⟨z0c0, z0c1, z0c2, z0f0, z0f1, z0f2, z0l⟩ := z0.cells
        obtain ⟨z1c0, z1c1, z1c2, z1f0, z1f1, z1f2, z1l⟩ := z1.cells
        obtain ⟨z2c0, z2c1, z2c2, z2f0, z2f1, z2f2, z2l⟩ := z2.cells
        obtain ⟨zlc0, zlc1, zlc2, zlf0, zlf1, zlf2, zll⟩ := zl.cells
        obtain ⟨zhc0, zhc1, zhc2, zhf0, zhf1, zhf2, zhl⟩ := zh.cells
        go_upto_region 9 with fail
        clear z0c0 z0c1 z0c2 z0f0 z0f1 z0f2 z0l z1c0 z1c1 z1c2 z1f0 z1f1 z1f2 z1l z2c0 z2c1 z2c2 z2f0 z2f1 z2f2 z2l zlc0 zlc1 zlc2 zlf0 zlf1 zlf2 zll zhc0 zhc1 zhc2 zhf0 zhf1 zhf2 zhl
        replace z0 := z0.on ((Below.refl _ _).drew : Below w9.heap.size w9 w9.drew)
        replace z1 := z1.on ((Below.refl _ _).drew : Below w9.heap.size w9 w9.drew)
        replace z2 := z2.on ((Below.refl _ _).drew : Below w9.heap.size w9 w9.drew)
        replace h := h.on ((Below.refl _ _).drew : Below w9.heap.size w9 w9.drew)
        replace rl := rl.on ((Below.refl _ _).drew : Below w9.heap.size w9 w9.drew)
        replace rh := rh.on ((Below.refl _ _).drew : Below w9.heap.size w9 w9.drew)
        replace zl := zl.on ((Below.refl _ _).drew : Below w9.heap.size w9 w9.drew)
        replace zh := zh.on ((Below.refl _ _).drew : Below w9.heap.size w9 w9.drew)
        replace BW := Lib.hid (Below.step BW ((Below.refl _ _).drew : Below w9.heap.size w9 w9.drew))
        go_region_held3 (fun w' => w'.cell? ⟨w.heap.size, 0, none⟩ = some (.int .i64 (B : Int)) ∧ w'.cell? ⟨w.heap.size, 1, none⟩ = some (.int .i64 (P : Int)) ∧ w'.cell? ⟨w.heap.size, 2, none⟩ = some (.int .i64 (W : Int)) ∧ w'.cell? ⟨(w.heap.size + 1), 0, none⟩ = some (.bool neg) ∧ w'.cell? ⟨(w.heap.size + 1), 1, none⟩ = some (.slice A n c) ∧ w'.cell? ⟨(w.heap.size + 1), 2, none⟩ = some (.int .i64 e) ∧ w'.cell? ⟨w1.heap.size, 0, none⟩ = some (.bool false) ∧ w'.cell? ⟨w1.heap.size, 1, none⟩ = some (.slice VL vl cl) ∧ w'.cell? ⟨w1.heap.size, 2, none⟩ = some (.int .i64 le))
          ((first | exact ⟨z0.cells.1, z0.cells.2.1, z0.cells.2.2.1, z1.cells.1, z1.cells.2.1, z1.cells.2.2.1, zl.cells.1, zl.cells.2.1, zl.cells.2.2.1⟩))
          (first
            | (go_at_call 103
               (with_reducible refine (rplace_as hf h hn HMR.out h0 HP.out).mono ?_)
               rintro en w10 ⟨rfl, b⟩
               replace z0 := z0.on b
               replace z1 := z1.on b
               replace z2 := z2.on b
               replace h := h.on b
               replace rl := rl.on b
               replace rh := rh.on b
               replace zl := zl.on b
               replace zh := zh.on b
               replace BW := Lib.hid (Below.step BW.out b)
               clear b)
            | (go_at_call 102
               (with_reducible refine (reven_as rl (by omega) hl1 hl2 p _ HE.out).mono ?_)
               rintro en w11 ⟨rfl, b⟩
               replace z0 := z0.on b
               replace z1 := z1.on b
               replace z2 := z2.on b
               replace h := h.on b
               replace rl := rl.on b
               replace rh := rh.on b
               replace zl := zl.on b
               replace zh := zh.on b
               replace BW := Lib.hid (Below.step BW.out b)
               clear b))
        replace BW := BW.out
        all_goals (
          obtain ⟨z2c0, z2c1, z2c2, z2f0, z2f1, z2f2, z2l⟩ := z2.cells
          obtain ⟨zlc0, zlc1, zlc2, zlf0, zlf1, zlf2, zll⟩ := zl.cells
          obtain ⟨zhc0, zhc1, zhc2, zhf0, zhf1, zhf2, zhl⟩ := zh.cells
          go_wp2_with fail
          clear z2c0 z2c1 z2c2 z2f0 z2f1 z2f2 z2l zlc0 zlc1 zlc2 zlf0 zlf1 zlf2 zll zhc0 zhc1 zhc2 zhf0 zhf1 zhf2 zhl
          have y2 := z2.put_d false VL vl cl le
          have yl := z2.br tRD rl (.bool false) (.slice VL vl cl) (.int .i64 le)
          have yb := below_put3 BW (show w.heap.size ≤ w.heap.size + 1 + 1 by omega) (.bool false) (.slice VL vl cl) (.int .i64 le)
          obtain ⟨wq, e1_, e2_⟩ := put3_named w11 (w.heap.size + 1 + 1) (.bool false) (.slice VL vl cl) (.int .i64 le)
          rw [e2_] at y2 yl yb
          rw [e1_]
          clear e1_ e2_
          obtain ⟨p0, p1, p2, _⟩ := y2.cells
          refine bodyPost_ret (v := .agg #[.bool false, .slice VL vl cl, .int .i64 le]) (by simp [results, Tryz.results67, go_sem, p0, p1, p2]) rfl ?_
          exact ⟨_, _, _, rfl, yl, yb⟩)
    · rw [show (decide ((0 : Int) < 1) || (decide ((1 : Int) = 0) && !ev)) = true from rfl] at hu
      obtain rfl : up = true := by first | exact hu.symm | simpa using hu.symm
      clear hu HU
      have hr := HR.out
      rw [if_pos rfl, if_pos rfl] at hr
      obtain ⟨rfl, rfl⟩ := hr
      clear HR
      obtain ⟨z0c0, z0c1, z0c2, z0f0, z0f1, z0f2, z0l⟩ := z0.cells
      obtain ⟨z1c0, z1c1, z1c2, z1f0, z1f1, z1f2, z1l⟩ := z1.cells
      obtain ⟨z2c0, z2c1, z2c2, z2f0, z2f1, z2f2, z2l⟩ := z2.cells
      obtain ⟨zlc0, zlc1, zlc2, zlf0, zlf1, zlf2, zll⟩ := zl.cells
      obtain ⟨zhc0, zhc1, zhc2, zhf0, zhf1, zhf2, zhl⟩ := zh.cells
      go_wp2_with fail
      go_region
      go_wp2_with fail
      clear z0c0 z0c1 z0c2 z0f0 z0f1 z0f2 z0l z1c0 z1c1 z1c2 z1f0 z1f1 z1f2 z1l z2c0 z2c1 z2c2 z2f0 z2f1 z2f2 z2l zlc0 zlc1 zlc2 zlf0 zlf1 zlf2 zll zhc0 zhc1 zhc2 zhf0 zhf1 zhf2 zhl
      have y2 := z2.put_d false VH vh ch he
      have yl := z2.br tRD rh (.bool false) (.slice VH vh ch) (.int .i64 he)
      have yb := below_put3 BW (show w.heap.size ≤ w.heap.size + 1 + 1 by omega) (.bool false) (.slice VH vh ch) (.int .i64 he)
      replace y2 := y2.on ((Below.refl _ _).drew)
      replace yl := yl.on ((Below.refl _ _).drew)
      replace yb := yb.drew
      obtain ⟨wq, eq_⟩ : ∃ w', (put3 w9 (w.heap.size + 1 + 1) (.bool false) (.slice VH vh ch) (.int .i64 he)).drew = w' := ⟨_, rfl⟩
      rw [eq_] at y2 yl yb ⊢
      clear eq_
      obtain ⟨p0, p1, p2, _⟩ := y2.cells
      refine bodyPost_ret (v := .agg #[.bool false, .slice VH vh ch, .int .i64 he]) (by simp [results, Tryz.results67, go_sem, p0, p1, p2]) rfl ?_
      exact ⟨_, _, _, rfl, yl, yb⟩
  · rw [if_neg m0] at hu
    have d0 : (mode == 0) = false := by simpa using m0
    by_cases m2 : mode = 2
    · subst m2
      rw [if_pos rfl] at hu
      cases neg
      ·
        obtain rfl : up = false := by first | exact hu.symm | simpa using hu.symm
        clear hu HU
        have hr := HR.out
        rw [if_neg (by decide), if_neg (by decide)] at hr
        obtain ⟨rfl, rfl⟩ := hr
        clear HR
        obtain ⟨z1c0, z1c1, z1c2, z1f0, z1f1, z1f2, z1l⟩ := z1.cells
        obtain ⟨z2c0, z2c1, z2c2, z2f0, z2f1, z2f2, z2l⟩ := z2.cells
        obtain ⟨zlc0, zlc1, zlc2, zlf0, zlf1, zlf2, zll⟩ := zl.cells
        obtain ⟨zhc0, zhc1, zhc2, zhf0, zhf1, zhf2, zhl⟩ := zh.cells
        go_wp2_with fail
        clear z1c0 z1c1 z1c2 z1f0 z1f1 z1f2 z1l z2c0 z2c1 z2c2 z2f0 z2f1 z2f2 z2l zlc0 zlc1 zlc2 zlf0 zlf1 zlf2 zll zhc0 zhc1 zhc2 zhf0 zhf1 zhf2 zhl
        have y2 := z2.put_d false VL vl cl le
        have yl := z2.br tRD rl (.bool false) (.slice VL vl cl) (.int .i64 le)
        have yb := below_put3 BW (show w.heap.size ≤ w.heap.size + 1 + 1 by omega) (.bool false) (.slice VL vl cl) (.int .i64 le)
        obtain ⟨wq, e1_, e2_⟩ := put3_named w9 (w.heap.size + 1 + 1) (.bool false) (.slice VL vl cl) (.int .i64 le)
        rw [e2_] at y2 yl yb
        rw [e1_]
        clear e1_ e2_
        obtain ⟨p0, p1, p2, _⟩ := y2.cells
        refine bodyPost_ret (v := .agg #[.bool false, .slice VL vl cl, .int .i64 le]) (by simp [results, Tryz.results67, go_sem, p0, p1, p2]) rfl ?_
        exact ⟨_, _, _, rfl, yl, yb⟩
      ·
        obtain rfl : up = true := by first | exact hu.symm | simpa using hu.symm
        clear hu HU
        have hr := HR.out
        rw [if_pos rfl, if_pos rfl] at hr
        obtain ⟨rfl, rfl⟩ := hr
        clear HR
        obtain ⟨z1c0, z1c1, z1c2, z1f0, z1f1, z1f2, z1l⟩ := z1.cells
        obtain ⟨z2c0, z2c1, z2c2, z2f0, z2f1, z2f2, z2l⟩ := z2.cells
        obtain ⟨zlc0, zlc1, zlc2, zlf0, zlf1, zlf2, zll⟩ := zl.cells
        obtain ⟨zhc0, zhc1, zhc2, zhf0, zhf1, zhf2, zhl⟩ := zh.cells
        go_wp2_with fail
        clear z1c0 z1c1 z1c2 z1f0 z1f1 z1f2 z1l z2c0 z2c1 z2c2 z2f0 z2f1 z2f2 z2l zlc0 zlc1 zlc2 zlf0 zlf1 zlf2 zll zhc0 zhc1 zhc2 zhf0 zhf1 zhf2 zhl
        have y2 := z2.put_d false VH vh ch he
        have yl := z2.br tRD rh (.bool false) (.slice VH vh ch) (.int .i64 he)
        have yb := below_put3 BW (show w.heap.size ≤ w.heap.size + 1 + 1 by omega) (.bool false) (.slice VH vh ch) (.int .i64 he)
        obtain ⟨wq, e1_, e2_⟩ := put3_named w9 (w.heap.size + 1 + 1) (.bool false) (.slice VH vh ch) (.int .i64 he)
        rw [e2_] at y2 yl yb
        rw [e1_]
        clear e1_ e2_
        obtain ⟨p0, p1, p2, _⟩ := y2.cells
        refine bodyPost_ret (v := .agg #[.bool false, .slice VH vh ch, .int .i64 he]) (by simp [results, Tryz.results67, go_sem, p0, p1, p2]) rfl ?_
        exact ⟨_, _, _, rfl, yl, yb⟩
    · rw [if_neg m2] at hu
      have d2 : (mode == 2) = false := by simpa using m2
      by_cases m3 : mode = 3
      · subst m3
        rw [if_pos rfl] at hu
        cases neg
        ·
          obtain rfl : up = true := by first | exact hu.symm | simpa using hu.symm
          clear hu HU
          have hr := HR.out
          rw [if_pos rfl, if_pos rfl] at hr
          obtain ⟨rfl, rfl⟩ := hr
          clear HR
          obtain ⟨z1c0, z1c1, z1c2, z1f0, z1f1, z1f2, z1l⟩ := z1.cells
          obtain ⟨z2c0, z2c1, z2c2, z2f0, z2f1, z2f2, z2l⟩ := z2.cells
          obtain ⟨zlc0, zlc1, zlc2, zlf0, zlf1, zlf2, zll⟩ := zl.cells
          obtain ⟨zhc0, zhc1, zhc2, zhf0, zhf1, zhf2, zhl⟩ := zh.cells
          go_wp2_with fail
          clear z1c0 z1c1 z1c2 z1f0 z1f1 z1f2 z1l z2c0 z2c1 z2c2 z2f0 z2f1 z2f2 z2l zlc0 zlc1 zlc2 zlf0 zlf1 zlf2 zll zhc0 zhc1 zhc2 zhf0 zhf1 zhf2 zhl
          have y2 := z2.put_d false VH vh ch he
          have yl := z2.br tRD rh (.bool false) (.slice VH vh ch) (.int .i64 he)
          have yb := below_put3 BW (show w.heap.size ≤ w.heap.size + 1 + 1 by omega) (.bool false) (.slice VH vh ch) (.int .i64 he)
          obtain ⟨wq, e1_, e2_⟩ := put3_named w9 (w.heap.size + 1 + 1) (.bool false) (.slice VH vh ch) (.int .i64 he)
          rw [e2_] at y2 yl yb
          rw [e1_]
          clear e1_ e2_
          obtain ⟨p0, p1, p2, _⟩ := y2.cells
          refine bodyPost_ret (v := .agg #[.bool false, .slice VH vh ch, .int .i64 he]) (by simp [results, Tryz.results67, go_sem, p0, p1, p2]) rfl ?_
          exact ⟨_, _, _, rfl, yl, yb⟩
        ·
          obtain rfl : up = false := by first | exact hu.symm | simpa using hu.symm
          clear hu HU
          have hr := HR.out
          rw [if_neg (by decide), if_neg (by decide)] at hr
          obtain ⟨rfl, rfl⟩ := hr
          clear HR
          obtain ⟨z1c0, z1c1, z1c2, z1f0, z1f1, z1f2, z1l⟩ := z1.cells
          obtain ⟨z2c0, z2c1, z2c2, z2f0, z2f1, z2f2, z2l⟩ := z2.cells
          obtain ⟨zlc0, zlc1, zlc2, zlf0, zlf1, zlf2, zll⟩ := zl.cells
          obtain ⟨zhc0, zhc1, zhc2, zhf0, zhf1, zhf2, zhl⟩ := zh.cells
          go_wp2_with fail
          clear z1c0 z1c1 z1c2 z1f0 z1f1 z1f2 z1l z2c0 z2c1 z2c2 z2f0 z2f1 z2f2 z2l zlc0 zlc1 zlc2 zlf0 zlf1 zlf2 zll zhc0 zhc1 zhc2 zhf0 zhf1 zhf2 zhl
          have y2 := z2.put_d false VL vl cl le
          have yl := z2.br tRD rl (.bool false) (.slice VL vl cl) (.int .i64 le)
          have yb := below_put3 BW (show w.heap.size ≤ w.heap.size + 1 + 1 by omega) (.bool false) (.slice VL vl cl) (.int .i64 le)
          obtain ⟨wq, e1_, e2_⟩ := put3_named w9 (w.heap.size + 1 + 1) (.bool false) (.slice VL vl cl) (.int .i64 le)
          rw [e2_] at y2 yl yb
          rw [e1_]
          clear e1_ e2_
          obtain ⟨p0, p1, p2, _⟩ := y2.cells
          refine bodyPost_ret (v := .agg #[.bool false, .slice VL vl cl, .int .i64 le]) (by simp [results, Tryz.results67, go_sem, p0, p1, p2]) rfl ?_
          exact ⟨_, _, _, rfl, yl, yb⟩
      · rw [if_neg m3] at hu
        have d3 : (mode == 3) = false := by simpa using m3
        by_cases m4 : mode = 4
        · subst m4
          rw [if_pos rfl] at hu
          rcases hnr with rfl | rfl | rfl
          ·
            obtain rfl : up = false := by first | exact hu.symm | simpa using hu.symm
            clear hu HU
            have hr := HR.out
            rw [if_neg (by decide), if_neg (by decide)] at hr
            obtain ⟨rfl, rfl⟩ := hr
            clear HR
            obtain ⟨z1c0, z1c1, z1c2, z1f0, z1f1, z1f2, z1l⟩ := z1.cells
            obtain ⟨z2c0, z2c1, z2c2, z2f0, z2f1, z2f2, z2l⟩ := z2.cells
            obtain ⟨zlc0, zlc1, zlc2, zlf0, zlf1, zlf2, zll⟩ := zl.cells
            obtain ⟨zhc0, zhc1, zhc2, zhf0, zhf1, zhf2, zhl⟩ := zh.cells
            go_wp2_with fail
            clear z1c0 z1c1 z1c2 z1f0 z1f1 z1f2 z1l z2c0 z2c1 z2c2 z2f0 z2f1 z2f2 z2l zlc0 zlc1 zlc2 zlf0 zlf1 zlf2 zll zhc0 zhc1 zhc2 zhf0 zhf1 zhf2 zhl
            have y2 := z2.put_d false VL vl cl le
            have yl := z2.br tRD rl (.bool false) (.slice VL vl cl) (.int .i64 le)
            have yb := below_put3 BW (show w.heap.size ≤ w.heap.size + 1 + 1 by omega) (.bool false) (.slice VL vl cl) (.int .i64 le)
            obtain ⟨wq, e1_, e2_⟩ := put3_named w9 (w.heap.size + 1 + 1) (.bool false) (.slice VL vl cl) (.int .i64 le)
            rw [e2_] at y2 yl yb
            rw [e1_]
            clear e1_ e2_
            obtain ⟨p0, p1, p2, _⟩ := y2.cells
            refine bodyPost_ret (v := .agg #[.bool false, .slice VL vl cl, .int .i64 le]) (by simp [results, Tryz.results67, go_sem, p0, p1, p2]) rfl ?_
            exact ⟨_, _, _, rfl, yl, yb⟩
          ·
            obtain rfl : up = true := by first | exact hu.symm | simpa using hu.symm
            clear hu HU
            have hr := HR.out
            rw [if_pos rfl, if_pos rfl] at hr
            obtain ⟨rfl, rfl⟩ := hr
            clear HR
            obtain ⟨z1c0, z1c1, z1c2, z1f0, z1f1, z1f2, z1l⟩ := z1.cells
            obtain ⟨z2c0, z2c1, z2c2, z2f0, z2f1, z2f2, z2l⟩ := z2.cells
            obtain ⟨zlc0, zlc1, zlc2, zlf0, zlf1, zlf2, zll⟩ := zl.cells
            obtain ⟨zhc0, zhc1, zhc2, zhf0, zhf1, zhf2, zhl⟩ := zh.cells
            go_wp2_with fail
            clear z1c0 z1c1 z1c2 z1f0 z1f1 z1f2 z1l z2c0 z2c1 z2c2 z2f0 z2f1 z2f2 z2l zlc0 zlc1 zlc2 zlf0 zlf1 zlf2 zll zhc0 zhc1 zhc2 zhf0 zhf1 zhf2 zhl
            have y2 := z2.put_d false VH vh ch he
            have yl := z2.br tRD rh (.bool false) (.slice VH vh ch) (.int .i64 he)
            have yb := below_put3 BW (show w.heap.size ≤ w.heap.size + 1 + 1 by omega) (.bool false) (.slice VH vh ch) (.int .i64 he)
            obtain ⟨wq, e1_, e2_⟩ := put3_named w9 (w.heap.size + 1 + 1) (.bool false) (.slice VH vh ch) (.int .i64 he)
            rw [e2_] at y2 yl yb
            rw [e1_]
            clear e1_ e2_
            obtain ⟨p0, p1, p2, _⟩ := y2.cells
            refine bodyPost_ret (v := .agg #[.bool false, .slice VH vh ch, .int .i64 he]) (by simp [results, Tryz.results67, go_sem, p0, p1, p2]) rfl ?_
            exact ⟨_, _, _, rfl, yl, yb⟩
          ·
            obtain rfl : up = true := by first | exact hu.symm | simpa using hu.symm
            clear hu HU
            have hr := HR.out
            rw [if_pos rfl, if_pos rfl] at hr
            obtain ⟨rfl, rfl⟩ := hr
            clear HR
            obtain ⟨z1c0, z1c1, z1c2, z1f0, z1f1, z1f2, z1l⟩ := z1.cells
            obtain ⟨z2c0, z2c1, z2c2, z2f0, z2f1, z2f2, z2l⟩ := z2.cells
            obtain ⟨zlc0, zlc1, zlc2, zlf0, zlf1, zlf2, zll⟩ := zl.cells
            obtain ⟨zhc0, zhc1, zhc2, zhf0, zhf1, zhf2, zhl⟩ := zh.cells
            go_wp2_with fail
            clear z1c0 z1c1 z1c2 z1f0 z1f1 z1f2 z1l z2c0 z2c1 z2c2 z2f0 z2f1 z2f2 z2l zlc0 zlc1 zlc2 zlf0 zlf1 zlf2 zll zhc0 zhc1 zhc2 zhf0 zhf1 zhf2 zhl
            have y2 := z2.put_d false VH vh ch he
            have yl := z2.br tRD rh (.bool false) (.slice VH vh ch) (.int .i64 he)
            have yb := below_put3 BW (show w.heap.size ≤ w.heap.size + 1 + 1 by omega) (.bool false) (.slice VH vh ch) (.int .i64 he)
            obtain ⟨wq, e1_, e2_⟩ := put3_named w9 (w.heap.size + 1 + 1) (.bool false) (.slice VH vh ch) (.int .i64 he)
            rw [e2_] at y2 yl yb
            rw [e1_]
            clear e1_ e2_
            obtain ⟨p0, p1, p2, _⟩ := y2.cells
            refine bodyPost_ret (v := .agg #[.bool false, .slice VH vh ch, .int .i64 he]) (by simp [results, Tryz.results67, go_sem, p0, p1, p2]) rfl ?_
            exact ⟨_, _, _, rfl, yl, yb⟩
        · rw [if_neg m4] at hu
          have d4 : (mode == 4) = false := by simpa using m4
          obtain rfl : up = false := by first | exact hu.symm | simpa using hu.symm
          clear hu HU
          have hr := HR.out
          rw [if_neg (by decide), if_neg (by decide)] at hr
          obtain ⟨rfl, rfl⟩ := hr
          clear HR
          obtain ⟨z1c0, z1c1, z1c2, z1f0, z1f1, z1f2, z1l⟩ := z1.cells
          obtain ⟨z2c0, z2c1, z2c2, z2f0, z2f1, z2f2, z2l⟩ := z2.cells
          obtain ⟨zlc0, zlc1, zlc2, zlf0, zlf1, zlf2, zll⟩ := zl.cells
          obtain ⟨zhc0, zhc1, zhc2, zhf0, zhf1, zhf2, zhl⟩ := zh.cells
          go_wp2_with fail
          clear z1c0 z1c1 z1c2 z1f0 z1f1 z1f2 z1l z2c0 z2c1 z2c2 z2f0 z2f1 z2f2 z2l zlc0 zlc1 zlc2 zlf0 zlf1 zlf2 zll zhc0 zhc1 zhc2 zhf0 zhf1 zhf2 zhl
          have y2 := z2.put_d false VL vl cl le
          have yl := z2.br tRD rl (.bool false) (.slice VL vl cl) (.int .i64 le)
          have yb := below_put3 BW (show w.heap.size ≤ w.heap.size + 1 + 1 by omega) (.bool false) (.slice VL vl cl) (.int .i64 le)
          obtain ⟨wq, e1_, e2_⟩ := put3_named w9 (w.heap.size + 1 + 1) (.bool false) (.slice VL vl cl) (.int .i64 le)
          rw [e2_] at y2 yl yb
          rw [e1_]
          clear e1_ e2_
          obtain ⟨p0, p1, p2, _⟩ := y2.cells
          refine bodyPost_ret (v := .agg #[.bool false, .slice VL vl cl, .int .i64 le]) (by simp [results, Tryz.results67, go_sem, p0, p1, p2]) rfl ?_
          exact ⟨_, _, _, rfl, yl, yb⟩
/-- THE SIZE'S NEIGHBOUR that the mode has. -/
theorem rchosen_as {B P W M E H : Nat} {low : Int} (hf : Fm B P W M E H low) {A : Option Addr} {n c x : Nat} {neg : Bool} {e : Int} {w : World} (h : BR w A n c x) (hn : n ≤ 100000) (hm : mayR ⟨neg, x, e⟩ = true) (h0 : x ≠ 0) (mode : Int) {p : Int} (hp : plcS P low ⟨neg, x, e⟩ = p) {rx : Nat} {re : Int}
    (hr : D.pl ⟨false, (⟨neg, x, e⟩ : D).vl.natAbs / 2 ^ (p + 40000).toNat + (if upB mode neg (flC P M low (⟨neg, x, e⟩ : D).vl.natAbs) ((⟨neg, x, e⟩ : D).vl.natAbs - valU M low (flC P M low (⟨neg, x, e⟩ : D).vl.natAbs)) (wid M low (flC P M low (⟨neg, x, e⟩ : D).vl.natAbs)) then 1 else 0), p⟩ = ⟨false, rx, re⟩) :
    Calls Tryz.prog 67 #[.agg #[.int .i64 (B : Int), .int .i64 (P : Int), .int .i64 (W : Int)], .int .i64 mode, .agg #[.bool neg, .slice A n c, .int .i64 e]] w (RPx w false rx re) := by
  obtain ⟨b1, b2, b3, b4, b5, b6, b7, b8, b9, b10, b11, b12, b13, b14, b15⟩ := hf.bd
  obtain ⟨k1, k2, k3, k4⟩ := mayR_bd hm h0
  obtain ⟨p1, p2⟩ := plc_bd hf hm h0
  have k5 := ((D.may_iff _).1 k1).2.2
  have hplc := plc_cell (P := P) (low := low) (a := ⟨neg, x, e⟩) h0 (by omega)
  rw [hp] at p1 p2 hplc
  obtain ⟨hq, hpar⟩ := flq hf (⟨neg, x, e⟩ : D).vl.natAbs
  obtain ⟨fs1, fs2⟩ := flC_spec hf (⟨neg, x, e⟩ : D).vl.natAbs
  rw [← hplc] at hq hpar fs1 fs2
  rw [fs1, fs2] at hr
  have hsv := size_vl (a := ⟨neg, x, e⟩) (by omega)
  have hnb := fun (lx hx : Nat) (le he : Int) h1 h2 (V : World) (hV : BR V A n c x) => rnb_as (lx := lx) (hx := hx) (le := le) (he := he) hf hV hn hm h0 hp h1 h2
  have hpp := D.pl_pos (d := ⟨neg, x, e⟩) h0
  have hbt := blen_div_tz h0
  have htz := (tz_blen h0).2.2
  obtain ⟨dn, dx, de, hd⟩ : ∃ dn dx de, D.pl ⟨neg, x, e⟩ = ⟨dn, dx, de⟩ := ⟨_, _, _, rfl⟩
  rw [hd] at k2 hsv hpp
  simp only [D.mk.injEq] at hpp
  obtain ⟨_, h2, h3⟩ := hpp
  rw [← h2] at hbt htz
  obtain ⟨j1, j2, j3⟩ := (D.may_iff _).1 k2
  have hdx : dx ≠ 0 := by intro h; rw [h] at htz; simp at htz
  have hbp := (blen_pos hdx).2
  simp only at k3 k4 k5 j1 j2 j3
  have mt : (⟨false, dx, de + 1⟩ : D).may = true := (D.may_iff _).2 ⟨j1, by show -8192 ≤ de + 1; omega, by show de + 1 ≤ 8192; omega⟩
  have ht := twice_vl (dx := dx) (de := de) (by omega)
  rw [hsv] at ht
  obtain ⟨c0, hc0⟩ : ∃ c0, flC P M low (⟨neg, x, e⟩ : D).vl.natAbs = c0 := ⟨_, rfl⟩
  rw [hc0] at hpar hr
  clear fs1 fs2 hc0 hsv hplc
  obtain ⟨z, hz⟩ : ∃ z, (⟨neg, x, e⟩ : D).vl.natAbs = z := ⟨_, rfl⟩
  rw [hz] at hr hq hpar ht hnb
  obtain ⟨T, hT⟩ : ∃ T, 2 ^ (p + 40000).toNat = T := ⟨_, rfl⟩
  have hT0 : 0 < T := by rw [← hT]; exact Nat.two_pow_pos _
  obtain ⟨q, hqq⟩ : ∃ q, z / T = q := ⟨_, rfl⟩
  have hdm := Nat.div_add_mod z T
  simp only [hT] at hr hq hpar hnb
  rw [hqq] at hr hq hpar hdm
  simp only [hqq] at hnb
  rw [show z - q * T = z % T by rw [Nat.mul_comm]; omega] at hr
  obtain ⟨lx, le, hlow⟩ := pl_false q p
  obtain ⟨hx, he, hhigh⟩ := pl_false (q + (if z % T = 0 then 0 else 1)) p
  have hi : (if z % T = 0 then 0 else 1) ≤ 1 := by split <;> omega
  obtain ⟨bx, be, hboth⟩ := pl_false (q + (q + (if z % T = 0 then 0 else 1))) p
  have hnb := hnb lx hx le he hlow hhigh
  have hadd := nb_both (n := q) (m := q + (if z % T = 0 then 0 else 1)) (p := p) (by omega) (by omega) (by omega)
  rw [hlow, hhigh, hboth] at hadd
  obtain ⟨_, _, l3, _, l5, _, l7⟩ := nb_may (n := q) (p := p) (by omega) (by omega) (by omega)
  obtain ⟨_, _, _, _, g5, _, _⟩ := nb_may (n := q + (if z % T = 0 then 0 else 1)) (p := p) (by omega) (by omega) (by omega)
  obtain ⟨e1, _, _, e4, e5, _, _⟩ := nb_may (n := q + (q + (if z % T = 0 then 0 else 1))) (p := p) (by omega) (by omega) (by omega)
  have hev := nb_even q p
  rw [hlow] at l3 l5 l7
  rw [hhigh] at g5
  rw [hboth, hT] at e4
  rw [hboth] at e1 e5
  simp only at l3 l5 l7 g5 e5
  have hcmp := cmpS_ok mt e1
  rw [ht, e4] at hcmp
  obtain ⟨near, hne⟩ : ∃ near, cmpI (2 * (z : Int)) ((q + (q + (if z % T = 0 then 0 else 1))) * T : Nat) = near := ⟨_, rfl⟩
  rw [hne] at hcmp
  have hn3 : near = -1 ∨ near = 0 ∨ near = 1 := by
    have := cmpI_cases (2 * (z : Int)) ((q + (q + (if z % T = 0 then 0 else 1))) * T : Nat)
    rw [hne] at this
    omega
  have hee : (decide (lx = 0) || decide (p < (D.pl ⟨false, lx, le⟩).e)) = decide (q % 2 = 0) := by
    have hpl : D.pl ⟨false, lx, le⟩ = ⟨false, lx, le⟩ := by rw [← hlow]; exact pl_again _ _
    rw [hpl, ← hev, hlow]
  refine rchosen_walk hf h hn mode (Lib.hid hnb) (by omega) (by omega) (Lib.hid hd) (by omega) (by omega) (by omega) (by omega) (by omega) (Lib.hid hadd) (by omega) (Lib.hid hcmp) hn3 hm h0 (Lib.hid hp) (Lib.hid hee) (by omega) (by omega) (Lib.hid rfl) (Lib.hid ?_)
  by_cases hr0 : z % T = 0
  · rw [if_pos hr0, Nat.add_zero, hlow] at hhigh
    have hu : upB mode neg c0 (z % T) T = false := by unfold upB; rw [if_pos hr0]
    rw [hu, if_neg (by decide), Nat.add_zero, hlow] at hr
    simp only [D.mk.injEq, true_and] at hhigh hr
    obtain ⟨rfl, rfl⟩ := hhigh
    obtain ⟨rfl, rfl⟩ := hr
    exact ⟨by split <;> rfl, by split <;> rfl⟩
  · rw [if_neg hr0] at hhigh hne
    rw [near_is hT0 hqq hr0] at hne
    rw [upR_upB hr0 hpar hne]
    cases hu : upB mode neg c0 (z % T) T
    · rw [hu, if_neg (by decide), Nat.add_zero, hlow] at hr
      simp only [D.mk.injEq, true_and] at hr
      rw [if_neg (by decide), if_neg (by decide)]
      exact hr
    · rw [hu, if_pos rfl, hhigh] at hr
      simp only [D.mk.injEq, true_and] at hr
      rw [if_pos rfl, if_pos rfl]
      exact hr
end Go.Proofs.YtpachoeignpcbaaGreatDoor

namespace Go.Proofs.YtpachoeignpcbaaGreatDoor
open Go.RowKit
set_option linter.unusedVariables false

set_option maxHeartbeats 2000000 in
set_option maxRecDepth 100000 in
theorem rto_beyond {ng0 : Bool} {B P W M E H : Nat} {low : Int} (hf : Fm B P W M E H low) {A : Option Addr} {n c x : Nat} {neg : Bool} {e : Int} {w : World} (h : BR w A n c x) (hn : n ≤ 100000) (mode : Int) {gv xx gx : Nat} {xe ge q s : Int} {dn : Bool} {dx : Nat} {de : Int} (d1 : decide (mode < 0) = false) (d2 : decide (4 < mode) = false) (HM : Hid (mayR ⟨neg, x, e⟩ = true)) (d0 : ((n : Int) == 0) = false)
    (HCH : Hid (∀ V, BR V A n c x → Calls Tryz.prog 67 #[.agg #[.int .i64 (B : Int), .int .i64 (P : Int), .int .i64 (W : Int)], .int .i64 mode, .agg #[.bool neg, .slice A n c, .int .i64 e]] V (RPx V false xx xe))) (hlx : blen xx ≤ 100000)
    (HGR : Hid (∀ V, Calls Tryz.prog 68 #[.agg #[.int .i64 (B : Int), .int .i64 (P : Int), .int .i64 (W : Int)], .bool false] V fun en w' => en = .returned (.int .u64 (gv : Int)) ∧ Below V.heap.size V w'))
    (HVA : Hid (∀ V, Calls Tryz.prog 36 #[.agg #[.int .i64 (B : Int), .int .i64 (P : Int), .int .i64 (W : Int)], .int .u64 (gv : Int)] V (RDx V false gx ge 0))) (hlg : blen gx ≤ 100000)
    (HC : Hid (cmpS ⟨false, xx, xe⟩ ⟨false, gx, ge⟩ = (q, 0))) (hq : q = 1) {v : Nat} (HB : Hid (begS M E H mode neg = v)) :
    Calls Tryz.prog 39 #[.agg #[.int .i64 (B : Int), .int .i64 (P : Int), .int .i64 (W : Int)], .int .i64 mode, .agg #[.bool neg, .slice A n c, .int .i64 e], .bool ng0] w fun en w' => en = .returned (.tuple #[.int .u64 (v : Int), .int .i64 5, .int .i64 0]) ∧ Below w.heap.size w w' := by
  subst hq
  go_enter Tryz.func39, Tryz.ntmps39
  go_wp2_with fail
  obtain ⟨V, hV, z0, z1, BW, sW⟩ := fframe2 w 29 71 (B : Int) (P : Int) (W : Int) neg A n c e
  rw [hV]
  clear hV sW
  replace h := h.on BW
  refine (rmayR_as h hn true HM.out).mono ?_
  rintro en w1 ⟨rfl, b⟩
  replace z0 := z0.on b
  replace z1 := z1.on b
  replace h := h.on b
  replace BW := Below.step BW b
  clear b
  obtain ⟨z0c0, z0c1, z0c2, z0f0, z0f1, z0f2, z0l⟩ := z0.cells
  obtain ⟨z1c0, z1c1, z1c2, z1f0, z1f1, z1f2, z1l⟩ := z1.cells
  go_wp2_with fail
  refine (HCH.out _ h).mono ?_
  rintro en w2 ⟨Vx, vx, cx, rfl, rx, b⟩
  clear z0c0 z0c1 z0c2 z0f0 z0f1 z0f2 z0l z1c0 z1c1 z1c2 z1f0 z1f1 z1f2 z1l
  replace z0 := z0.on b
  replace z1 := z1.on b
  replace h := h.on b
  replace BW := Below.step BW b
  clear b
  have lx := rx.le (k := 100000) hlx
  go_upto_region 8 with fail
  obtain ⟨w3, e_w3⟩ : ∃ w', w2.alloc (dob false Vx vx cx xe 71) = w' := ⟨_, rfl⟩
  have b : Below w2.heap.size w2 w3 := e_w3 ▸ below_lit _ _
  have hs_w3 : w3.heap.size = w2.heap.size + 1 := e_w3 ▸ size_lit w2 _ rfl
  have zx : DB w3 w2.heap.size 71 false Vx vx cx xe := e_w3 ▸ DB.made w2 rfl 71 false Vx vx cx xe
  rw [e_w3]
  clear e_w3
  replace z0 := z0.on b
  replace z1 := z1.on b
  replace h := h.on b
  replace rx := rx.on b
  replace BW := Below.step BW b
  clear b
  clear hs_w3
  go_cut [12, 13] (CutNb w3 gx ge 0)
  case first =>
    have HS : Hid (∀ w', Below w3.heap.size w3 w' → w'.cell? ⟨w.heap.size, 0, none⟩ = some (.int .i64 (B : Int)) ∧ w'.cell? ⟨w.heap.size, 1, none⟩ = some (.int .i64 (P : Int)) ∧ w'.cell? ⟨w.heap.size, 2, none⟩ = some (.int .i64 (W : Int))) := fun w' hb => by
      obtain ⟨p0, p1, p2, _⟩ := (z0.on hb).cells
      exact ⟨p0, p1, p2⟩
    have kk : Below w3.heap.size w3 w3.drew := (Below.refl _ _).drew
    have kd : Below w3.heap.size w3 (w3.alloc (dob false none 0 0 0 71)).drew := (below_more' (Below.refl _ _) _).drew
    clear z0 z1 h rx zx BW
    go_region_held3 (fun w' => w'.cell? ⟨w.heap.size, 0, none⟩ = some (.int .i64 (B : Int)) ∧ w'.cell? ⟨w.heap.size, 1, none⟩ = some (.int .i64 (P : Int)) ∧ w'.cell? ⟨w.heap.size, 2, none⟩ = some (.int .i64 (W : Int)))
      ((refine HS.out _ ?_; first | (with_reducible assumption) | (with_reducible exact below_more' (by assumption) _) | ((with_reducible refine below_put3 ?_ ?_ _ _ _) <;> first | (with_reducible assumption) | omega)))
      (first
      | (go_at_call 68
         refine (HGR.out _).mono ?_
         rintro e v6 ⟨rfl, b6⟩
         have kk := Below.step (show Below w3.heap.size w3 _ from (by first | (with_reducible assumption) | (with_reducible exact below_more' (by assumption) _))) b6
         have hz6 := kk.size
         have b6 := Lib.hid b6)
      | (go_at_call 36
         refine (HVA.out _).mono ?_
         rintro e v8 ⟨B3, m3, d3, rfl, r3, b8⟩
         have kk := Below.step (show Below w3.heap.size w3 _ from (by first | (with_reducible assumption) | (with_reducible exact below_more' (by assumption) _))) b8
         have hz8 := kk.size
         have r3 := Lib.hid r3
         first | (have zz := ((DB.made_drew' w3 rfl 71 false none 0 0 0).on b6.out).on b8; obtain ⟨p0, p1, p2, g0, g1, g2, _⟩ := zz.cells; have zz := Lib.hid zz) | (have zz := (DB.made v6 rfl 71 false none 0 0 0).on b8; obtain ⟨p0, p1, p2, g0, g1, g2, _⟩ := zz.cells; have zz := Lib.hid zz) | skip
         clear b8))
    all_goals go_wp2_with fail
    all_goals go_meet
    all_goals (first | (exact ⟨_, B3, m3, d3, rfl, rfl, zz.out.put_d false B3 m3 d3 ge, zz.out.br tRD r3.out _ _ _, (by first | exact Nat.le_refl _ | omega), below_put3 kk (by omega) _ _ _⟩) | (exact ⟨_, B3, m3, d3, rfl, rfl, DB.made v8 rfl 71 false B3 m3 d3 ge, r3.out.on (below_lit _ _), (by omega), below_more' kk _⟩))
  case rest =>
    obtain ⟨gzh, Azh, nzh, czh, rfl, rfl, zh, rh, hg, b⟩ := hcut
    clear hg
    obtain ⟨w4, rfl⟩ : ∃ w4 : World, w4 = wc := ⟨_, rfl⟩
    replace z0 := z0.on b
    replace z1 := z1.on b
    replace h := h.on b
    replace rx := rx.on b
    replace zx := zx.on b
    replace BW := Below.step BW b
    clear b
    have lh := rh.le (k := 100000) hlg
    obtain ⟨z0c0, z0c1, z0c2, z0f0, z0f1, z0f2, z0l⟩ := z0.cells
    obtain ⟨z1c0, z1c1, z1c2, z1f0, z1f1, z1f2, z1l⟩ := z1.cells
    obtain ⟨zxc0, zxc1, zxc2, zxf0, zxf1, zxf2, zxl⟩ := zx.cells
    obtain ⟨zhc0, zhc1, zhc2, zhf0, zhf1, zhf2, zhl⟩ := zh.cells
    go_wp2_with fail
    refine (rCmp_as rx rh (by omega) (by omega) HC).mono ?_
    rintro en w5 ⟨rfl, b⟩
    clear z0c0 z0c1 z0c2 z0f0 z0f1 z0f2 z0l z1c0 z1c1 z1c2 z1f0 z1f1 z1f2 z1l zxc0 zxc1 zxc2 zxf0 zxf1 zxf2 zxl zhc0 zhc1 zhc2 zhf0 zhf1 zhf2 zhl
    replace z0 := z0.on b
    replace z1 := z1.on b
    replace h := h.on b
    replace rx := rx.on b
    replace zx := zx.on b
    replace zh := zh.on b
    replace rh := rh.on b
    replace BW := Below.step BW b
    clear b
    clear rh zh
    clear HC HVA HGR HCH HM
    obtain ⟨z0c0, z0c1, z0c2, z0f0, z0f1, z0f2, z0l⟩ := z0.cells
    obtain ⟨z1c0, z1c1, z1c2, z1f0, z1f1, z1f2, z1l⟩ := z1.cells
    go_wp2_with fail
    refine (rbeyond_as hf mode neg v HB.out _).mono ?_
    rintro en w6 ⟨rfl, b⟩
    clear z0c0 z0c1 z0c2 z0f0 z0f1 z0f2 z0l z1c0 z1c1 z1c2 z1f0 z1f1 z1f2 z1l
    replace z0 := z0.on b
    replace z1 := z1.on b
    replace h := h.on b
    replace rx := rx.on b
    replace zx := zx.on b
    replace BW := Below.step BW b
    clear b
    obtain ⟨z0c0, z0c1, z0c2, z0f0, z0f1, z0f2, z0l⟩ := z0.cells
    go_wp2_with fail
    refine bodyPost_ret (v := .tuple #[.int .u64 (v : Int), .int .i64 5, .int .i64 0]) (by simp [results, Tryz.results39, go_sem]) rfl ?_
    exact ⟨rfl, BW⟩
set_option maxHeartbeats 4000000 in
set_option maxRecDepth 100000 in
theorem rto_pos {ng0 : Bool} {B P W M E H : Nat} {low : Int} (hf : Fm B P W M E H low) {A : Option Addr} {n c x : Nat} {e : Int} {w : World} (h : BR w A n c x) (hn : n ≤ 100000) (mode : Int) {gv xx gx : Nat} {xe ge q s : Int} {dn : Bool} {dx : Nat} {de : Int} (d1 : decide (mode < 0) = false) (d2 : decide (4 < mode) = false) (HM : Hid (mayR ⟨false, x, e⟩ = true)) (d0 : ((n : Int) == 0) = false)
    (HCH : Hid (∀ V, BR V A n c x → Calls Tryz.prog 67 #[.agg #[.int .i64 (B : Int), .int .i64 (P : Int), .int .i64 (W : Int)], .int .i64 mode, .agg #[.bool false, .slice A n c, .int .i64 e]] V (RPx V false xx xe))) (hlx : blen xx ≤ 100000)
    (HGR : Hid (∀ V, Calls Tryz.prog 68 #[.agg #[.int .i64 (B : Int), .int .i64 (P : Int), .int .i64 (W : Int)], .bool false] V fun en w' => en = .returned (.int .u64 (gv : Int)) ∧ Below V.heap.size V w'))
    (HVA : Hid (∀ V, Calls Tryz.prog 36 #[.agg #[.int .i64 (B : Int), .int .i64 (P : Int), .int .i64 (W : Int)], .int .u64 (gv : Int)] V (RDx V false gx ge 0))) (hlg : blen gx ≤ 100000)
    (HC : Hid (cmpS ⟨false, xx, xe⟩ ⟨false, gx, ge⟩ = (q, 0))) (hq : q = -1 ∨ q = 0) (HD : Hid (D.pl ⟨false, x, e⟩ = ⟨dn, dx, de⟩)) (hdl : blen dx ≤ 100000) (he1 : -1000000 ≤ e) (he2 : e ≤ 1000000) (HQ : Hid (cmpS ⟨false, xx, xe⟩ ⟨false, dx, de⟩ = (s, 0)))
    {ty : Bool} (HTY : Hid (∀ V, BR V A n c x → Calls Tryz.prog 72 #[.agg #[.int .i64 (B : Int), .int .i64 (P : Int), .int .i64 (W : Int)], .agg #[.bool false, .slice A n c, .int .i64 e]] V fun en w' => en = .returned (.bool ty) ∧ Below V.heap.size V w')) {b : Nat} {pe : Int} (HPU : Hid (putS P M E H low ⟨false, xx, xe⟩ = (b, pe))) :
    Calls Tryz.prog 39 #[.agg #[.int .i64 (B : Int), .int .i64 (P : Int), .int .i64 (W : Int)], .int .i64 mode, .agg #[.bool false, .slice A n c, .int .i64 e], .bool ng0] w fun en w' => en = .returned (.tuple #[.int .u64 ((b : Int) : Int), .int .i64 (if s = 0 then 0 else if ty then 3 else 1), .int .i64 0]) ∧ Below w.heap.size w w' := by
  obtain ⟨r, hr⟩ : ∃ r : Int, (if s = 0 then 0 else if ty then 3 else 1) = r := ⟨_, rfl⟩
  rw [hr]
  have HF := Lib.hid hr
  clear hr
  go_enter Tryz.func39, Tryz.ntmps39
  go_wp2_with fail
  obtain ⟨V, hV, z0, z1, BW, sW⟩ := fframe2 w 29 71 (B : Int) (P : Int) (W : Int) false A n c e
  rw [hV]
  clear hV sW
  replace h := h.on BW
  refine (rmayR_as h hn true HM.out).mono ?_
  rintro en w1 ⟨rfl, b⟩
  replace z0 := z0.on b
  replace z1 := z1.on b
  replace h := h.on b
  replace BW := Below.step BW b
  clear b
  obtain ⟨z0c0, z0c1, z0c2, z0f0, z0f1, z0f2, z0l⟩ := z0.cells
  obtain ⟨z1c0, z1c1, z1c2, z1f0, z1f1, z1f2, z1l⟩ := z1.cells
  go_wp2_with fail
  refine (HCH.out _ h).mono ?_
  rintro en w2 ⟨Vx, vx, cx, rfl, rx, b⟩
  clear z0c0 z0c1 z0c2 z0f0 z0f1 z0f2 z0l z1c0 z1c1 z1c2 z1f0 z1f1 z1f2 z1l
  replace z0 := z0.on b
  replace z1 := z1.on b
  replace h := h.on b
  replace BW := Below.step BW b
  clear b
  have lx := rx.le (k := 100000) hlx
  go_upto_region 8 with fail
  obtain ⟨w3, e_w3⟩ : ∃ w', w2.alloc (dob false Vx vx cx xe 71) = w' := ⟨_, rfl⟩
  have b : Below w2.heap.size w2 w3 := e_w3 ▸ below_lit _ _
  have hs_w3 : w3.heap.size = w2.heap.size + 1 := e_w3 ▸ size_lit w2 _ rfl
  have zx : DB w3 w2.heap.size 71 false Vx vx cx xe := e_w3 ▸ DB.made w2 rfl 71 false Vx vx cx xe
  rw [e_w3]
  clear e_w3
  replace z0 := z0.on b
  replace z1 := z1.on b
  replace h := h.on b
  replace rx := rx.on b
  replace BW := Below.step BW b
  clear b
  clear hs_w3
  go_cut [12, 13] (CutNb w3 gx ge 0)
  case first =>
    have HS : Hid (∀ w', Below w3.heap.size w3 w' → w'.cell? ⟨w.heap.size, 0, none⟩ = some (.int .i64 (B : Int)) ∧ w'.cell? ⟨w.heap.size, 1, none⟩ = some (.int .i64 (P : Int)) ∧ w'.cell? ⟨w.heap.size, 2, none⟩ = some (.int .i64 (W : Int))) := fun w' hb => by
      obtain ⟨p0, p1, p2, _⟩ := (z0.on hb).cells
      exact ⟨p0, p1, p2⟩
    have kk : Below w3.heap.size w3 w3.drew := (Below.refl _ _).drew
    have kd : Below w3.heap.size w3 (w3.alloc (dob false none 0 0 0 71)).drew := (below_more' (Below.refl _ _) _).drew
    clear z0 z1 h rx zx BW
    go_region_held3 (fun w' => w'.cell? ⟨w.heap.size, 0, none⟩ = some (.int .i64 (B : Int)) ∧ w'.cell? ⟨w.heap.size, 1, none⟩ = some (.int .i64 (P : Int)) ∧ w'.cell? ⟨w.heap.size, 2, none⟩ = some (.int .i64 (W : Int)))
      ((refine HS.out _ ?_; first | (with_reducible assumption) | (with_reducible exact below_more' (by assumption) _) | ((with_reducible refine below_put3 ?_ ?_ _ _ _) <;> first | (with_reducible assumption) | omega)))
      (first
      | (go_at_call 68
         refine (HGR.out _).mono ?_
         rintro e v6 ⟨rfl, b6⟩
         have kk := Below.step (show Below w3.heap.size w3 _ from (by first | (with_reducible assumption) | (with_reducible exact below_more' (by assumption) _))) b6
         have hz6 := kk.size
         have b6 := Lib.hid b6)
      | (go_at_call 36
         refine (HVA.out _).mono ?_
         rintro e v8 ⟨B3, m3, d3, rfl, r3, b8⟩
         have kk := Below.step (show Below w3.heap.size w3 _ from (by first | (with_reducible assumption) | (with_reducible exact below_more' (by assumption) _))) b8
         have hz8 := kk.size
         have r3 := Lib.hid r3
         first | (have zz := ((DB.made_drew' w3 rfl 71 false none 0 0 0).on b6.out).on b8; obtain ⟨p0, p1, p2, g0, g1, g2, _⟩ := zz.cells; have zz := Lib.hid zz) | (have zz := (DB.made v6 rfl 71 false none 0 0 0).on b8; obtain ⟨p0, p1, p2, g0, g1, g2, _⟩ := zz.cells; have zz := Lib.hid zz) | skip
         clear b8))
    all_goals go_wp2_with fail
    all_goals go_meet
    all_goals (first | (exact ⟨_, B3, m3, d3, rfl, rfl, zz.out.put_d false B3 m3 d3 ge, zz.out.br tRD r3.out _ _ _, (by first | exact Nat.le_refl _ | omega), below_put3 kk (by omega) _ _ _⟩) | (exact ⟨_, B3, m3, d3, rfl, rfl, DB.made v8 rfl 71 false B3 m3 d3 ge, r3.out.on (below_lit _ _), (by omega), below_more' kk _⟩))
  case rest =>
    obtain ⟨gzh, Azh, nzh, czh, rfl, rfl, zh, rh, hg, b⟩ := hcut
    clear hg
    obtain ⟨w4, rfl⟩ : ∃ w4 : World, w4 = wc := ⟨_, rfl⟩
    replace z0 := z0.on b
    replace z1 := z1.on b
    replace h := h.on b
    replace rx := rx.on b
    replace zx := zx.on b
    replace BW := Below.step BW b
    clear b
    have lh := rh.le (k := 100000) hlg
    obtain ⟨z0c0, z0c1, z0c2, z0f0, z0f1, z0f2, z0l⟩ := z0.cells
    obtain ⟨z1c0, z1c1, z1c2, z1f0, z1f1, z1f2, z1l⟩ := z1.cells
    obtain ⟨zxc0, zxc1, zxc2, zxf0, zxf1, zxf2, zxl⟩ := zx.cells
    obtain ⟨zhc0, zhc1, zhc2, zhf0, zhf1, zhf2, zhl⟩ := zh.cells
    go_wp2_with fail
    refine (rCmp_as rx rh (by omega) (by omega) HC).mono ?_
    rintro en w5 ⟨rfl, b⟩
    clear z0c0 z0c1 z0c2 z0f0 z0f1 z0f2 z0l z1c0 z1c1 z1c2 z1f0 z1f1 z1f2 z1l zxc0 zxc1 zxc2 zxf0 zxf1 zxf2 zxl zhc0 zhc1 zhc2 zhf0 zhf1 zhf2 zhl
    replace z0 := z0.on b
    replace z1 := z1.on b
    replace h := h.on b
    replace rx := rx.on b
    replace zx := zx.on b
    replace zh := zh.on b
    replace rh := rh.on b
    replace BW := Below.step BW b
    clear b
    clear rh zh
    clear HC HVA HGR HCH HM
    have d4 : decide (0 < q) = false := by rcases hq with rfl | rfl <;> rfl
    clear hq
    by_cases hs : s = 0
    · subst hs
      obtain rfl : r = 0 := by rw [← HF.out, if_pos rfl]
      clear HTY HF
      obtain ⟨z0c0, z0c1, z0c2, z0f0, z0f1, z0f2, z0l⟩ := z0.cells
      obtain ⟨z1c0, z1c1, z1c2, z1f0, z1f1, z1f2, z1l⟩ := z1.cells
      obtain ⟨zxc0, zxc1, zxc2, zxf0, zxf1, zxf2, zxl⟩ := zx.cells
      go_upto_region 13 with fail
      clear z0c0 z0c1 z0c2 z0f0 z0f1 z0f2 z0l z1c0 z1c1 z1c2 z1f0 z1f1 z1f2 z1l zxc0 zxc1 zxc2 zxf0 zxf1 zxf2 zxl
      replace z0 := z0.on ((Below.refl _ _).drew : Below w5.heap.size w5 w5.drew)
      replace z1 := z1.on ((Below.refl _ _).drew : Below w5.heap.size w5 w5.drew)
      replace h := h.on ((Below.refl _ _).drew : Below w5.heap.size w5 w5.drew)
      replace rx := rx.on ((Below.refl _ _).drew : Below w5.heap.size w5 w5.drew)
      replace zx := zx.on ((Below.refl _ _).drew : Below w5.heap.size w5 w5.drew)
      replace BW := Lib.hid (Below.step BW ((Below.refl _ _).drew : Below w5.heap.size w5 w5.drew))
      go_region_held3 (fun w' => w'.cell? ⟨(w.heap.size + 1), 0, none⟩ = some (.bool false) ∧ w'.cell? ⟨(w.heap.size + 1), 1, none⟩ = some (.slice A n c) ∧ w'.cell? ⟨(w.heap.size + 1), 2, none⟩ = some (.int .i64 e) ∧ w'.cell? ⟨w2.heap.size, 0, none⟩ = some (.bool false) ∧ w'.cell? ⟨w2.heap.size, 1, none⟩ = some (.slice Vx vx cx) ∧ w'.cell? ⟨w2.heap.size, 2, none⟩ = some (.int .i64 xe))
        ((first | exact ⟨z1.cells.1, z1.cells.2.1, z1.cells.2.2.1, zx.cells.1, zx.cells.2.1, zx.cells.2.2.1⟩))
        (first
          | (go_at_call 56
             (with_reducible refine (rplain_any h (by omega) (by omega) (by omega) HD.out).mono ?_)
             rintro en w6 ⟨V_rd, v_rd, c_rd, rfl, rd, b⟩
             replace z0 := z0.on b
             replace z1 := z1.on b
             replace h := h.on b
             replace rx := rx.on b
             replace zx := zx.on b
             replace BW := Lib.hid (Below.step BW.out b)
             have ld := rd.le (k := 100000) hdl
             clear b)
          | (go_at_call 71
             (with_reducible refine (rsize_as _).mono ?_)
             rintro en w7 ⟨rfl, b⟩
             replace z0 := z0.on b
             replace z1 := z1.on b
             replace h := h.on b
             replace rx := rx.on b
             replace zx := zx.on b
             replace rd := rd.on b
             replace BW := Lib.hid (Below.step BW.out b)
             clear b)
          | (go_at_call 69
             (with_reducible refine (rCmp_as rx rd (by omega) (by omega) HQ).mono ?_)
             rintro en w8 ⟨rfl, b⟩
             replace z0 := z0.on b
             replace z1 := z1.on b
             replace h := h.on b
             replace rx := rx.on b
             replace zx := zx.on b
             replace rd := rd.on b
             replace BW := Lib.hid (Below.step BW.out b)
             clear b))
      replace BW := BW.out
      all_goals (
        obtain ⟨z0c0, z0c1, z0c2, z0f0, z0f1, z0f2, z0l⟩ := z0.cells
        obtain ⟨z1c0, z1c1, z1c2, z1f0, z1f1, z1f2, z1l⟩ := z1.cells
        obtain ⟨zxc0, zxc1, zxc2, zxf0, zxf1, zxf2, zxl⟩ := zx.cells
        go_wp2_with fail
        refine (rput_as hf rx (by omega) HPU.out).mono ?_
        rintro en w9 ⟨rfl, b⟩
        clear z0c0 z0c1 z0c2 z0f0 z0f1 z0f2 z0l z1c0 z1c1 z1c2 z1f0 z1f1 z1f2 z1l zxc0 zxc1 zxc2 zxf0 zxf1 zxf2 zxl
        replace z0 := z0.on b
        replace z1 := z1.on b
        replace h := h.on b
        replace rx := rx.on b
        replace zx := zx.on b
        replace rd := rd.on b
        replace BW := Below.step BW b
        clear b
        obtain ⟨z0c0, z0c1, z0c2, z0f0, z0f1, z0f2, z0l⟩ := z0.cells
        obtain ⟨z1c0, z1c1, z1c2, z1f0, z1f1, z1f2, z1l⟩ := z1.cells
        obtain ⟨zxc0, zxc1, zxc2, zxf0, zxf1, zxf2, zxl⟩ := zx.cells
        go_wp2_with fail
        refine bodyPost_ret (v := .tuple #[.int .u64 ((b : Int)), .int .i64 0, .int .i64 0]) (by simp [results, Tryz.results39, go_sem]) rfl ?_
        exact ⟨rfl, BW⟩)
    · have d3 : (s == 0) = false := by simpa using hs
      cases ty
      · obtain rfl : r = 1 := by rw [← HF.out, if_neg hs, if_neg (by decide)]
        clear HF
        obtain ⟨z0c0, z0c1, z0c2, z0f0, z0f1, z0f2, z0l⟩ := z0.cells
        obtain ⟨z1c0, z1c1, z1c2, z1f0, z1f1, z1f2, z1l⟩ := z1.cells
        obtain ⟨zxc0, zxc1, zxc2, zxf0, zxf1, zxf2, zxl⟩ := zx.cells
        go_upto_region 13 with fail
        clear z0c0 z0c1 z0c2 z0f0 z0f1 z0f2 z0l z1c0 z1c1 z1c2 z1f0 z1f1 z1f2 z1l zxc0 zxc1 zxc2 zxf0 zxf1 zxf2 zxl
        replace z0 := z0.on ((Below.refl _ _).drew : Below w5.heap.size w5 w5.drew)
        replace z1 := z1.on ((Below.refl _ _).drew : Below w5.heap.size w5 w5.drew)
        replace h := h.on ((Below.refl _ _).drew : Below w5.heap.size w5 w5.drew)
        replace rx := rx.on ((Below.refl _ _).drew : Below w5.heap.size w5 w5.drew)
        replace zx := zx.on ((Below.refl _ _).drew : Below w5.heap.size w5 w5.drew)
        replace BW := Lib.hid (Below.step BW ((Below.refl _ _).drew : Below w5.heap.size w5 w5.drew))
        go_region_held3 (fun w' => w'.cell? ⟨(w.heap.size + 1), 0, none⟩ = some (.bool false) ∧ w'.cell? ⟨(w.heap.size + 1), 1, none⟩ = some (.slice A n c) ∧ w'.cell? ⟨(w.heap.size + 1), 2, none⟩ = some (.int .i64 e) ∧ w'.cell? ⟨w2.heap.size, 0, none⟩ = some (.bool false) ∧ w'.cell? ⟨w2.heap.size, 1, none⟩ = some (.slice Vx vx cx) ∧ w'.cell? ⟨w2.heap.size, 2, none⟩ = some (.int .i64 xe))
          ((first | exact ⟨z1.cells.1, z1.cells.2.1, z1.cells.2.2.1, zx.cells.1, zx.cells.2.1, zx.cells.2.2.1⟩))
          (first
            | (go_at_call 56
               (with_reducible refine (rplain_any h (by omega) (by omega) (by omega) HD.out).mono ?_)
               rintro en w6 ⟨V_rd, v_rd, c_rd, rfl, rd, b⟩
               replace z0 := z0.on b
               replace z1 := z1.on b
               replace h := h.on b
               replace rx := rx.on b
               replace zx := zx.on b
               replace BW := Lib.hid (Below.step BW.out b)
               have ld := rd.le (k := 100000) hdl
               clear b)
            | (go_at_call 71
               (with_reducible refine (rsize_as _).mono ?_)
               rintro en w7 ⟨rfl, b⟩
               replace z0 := z0.on b
               replace z1 := z1.on b
               replace h := h.on b
               replace rx := rx.on b
               replace zx := zx.on b
               replace rd := rd.on b
               replace BW := Lib.hid (Below.step BW.out b)
               clear b)
            | (go_at_call 69
               (with_reducible refine (rCmp_as rx rd (by omega) (by omega) HQ).mono ?_)
               rintro en w8 ⟨rfl, b⟩
               replace z0 := z0.on b
               replace z1 := z1.on b
               replace h := h.on b
               replace rx := rx.on b
               replace zx := zx.on b
               replace rd := rd.on b
               replace BW := Lib.hid (Below.step BW.out b)
               clear b))
        replace BW := BW.out
        all_goals (
          obtain ⟨z0c0, z0c1, z0c2, z0f0, z0f1, z0f2, z0l⟩ := z0.cells
          obtain ⟨z1c0, z1c1, z1c2, z1f0, z1f1, z1f2, z1l⟩ := z1.cells
          obtain ⟨zxc0, zxc1, zxc2, zxf0, zxf1, zxf2, zxl⟩ := zx.cells
          go_wp2_with fail
          refine (HTY.out _ h).mono ?_
          rintro en w9 ⟨rfl, b⟩
          clear z0c0 z0c1 z0c2 z0f0 z0f1 z0f2 z0l z1c0 z1c1 z1c2 z1f0 z1f1 z1f2 z1l zxc0 zxc1 zxc2 zxf0 zxf1 zxf2 zxl
          replace z0 := z0.on b
          replace z1 := z1.on b
          replace h := h.on b
          replace rx := rx.on b
          replace zx := zx.on b
          replace rd := rd.on b
          replace BW := Below.step BW b
          clear b
          obtain ⟨z0c0, z0c1, z0c2, z0f0, z0f1, z0f2, z0l⟩ := z0.cells
          obtain ⟨z1c0, z1c1, z1c2, z1f0, z1f1, z1f2, z1l⟩ := z1.cells
          obtain ⟨zxc0, zxc1, zxc2, zxf0, zxf1, zxf2, zxl⟩ := zx.cells
          go_wp2_with fail
          refine (rput_as hf rx (by omega) HPU.out).mono ?_
          rintro en w10 ⟨rfl, b⟩
          clear z0c0 z0c1 z0c2 z0f0 z0f1 z0f2 z0l z1c0 z1c1 z1c2 z1f0 z1f1 z1f2 z1l zxc0 zxc1 zxc2 zxf0 zxf1 zxf2 zxl
          replace z0 := z0.on b
          replace z1 := z1.on b
          replace h := h.on b
          replace rx := rx.on b
          replace zx := zx.on b
          replace rd := rd.on b
          replace BW := Below.step BW b
          clear b
          obtain ⟨z0c0, z0c1, z0c2, z0f0, z0f1, z0f2, z0l⟩ := z0.cells
          obtain ⟨z1c0, z1c1, z1c2, z1f0, z1f1, z1f2, z1l⟩ := z1.cells
          obtain ⟨zxc0, zxc1, zxc2, zxf0, zxf1, zxf2, zxl⟩ := zx.cells
          go_wp2_with fail
          refine bodyPost_ret (v := .tuple #[.int .u64 ((b : Int)), .int .i64 1, .int .i64 0]) (by simp [results, Tryz.results39, go_sem]) rfl ?_
          exact ⟨rfl, BW⟩)
      · obtain rfl : r = 3 := by rw [← HF.out, if_neg hs, if_pos rfl]
        clear HF
        obtain ⟨z0c0, z0c1, z0c2, z0f0, z0f1, z0f2, z0l⟩ := z0.cells
        obtain ⟨z1c0, z1c1, z1c2, z1f0, z1f1, z1f2, z1l⟩ := z1.cells
        obtain ⟨zxc0, zxc1, zxc2, zxf0, zxf1, zxf2, zxl⟩ := zx.cells
        go_upto_region 13 with fail
        clear z0c0 z0c1 z0c2 z0f0 z0f1 z0f2 z0l z1c0 z1c1 z1c2 z1f0 z1f1 z1f2 z1l zxc0 zxc1 zxc2 zxf0 zxf1 zxf2 zxl
        replace z0 := z0.on ((Below.refl _ _).drew : Below w5.heap.size w5 w5.drew)
        replace z1 := z1.on ((Below.refl _ _).drew : Below w5.heap.size w5 w5.drew)
        replace h := h.on ((Below.refl _ _).drew : Below w5.heap.size w5 w5.drew)
        replace rx := rx.on ((Below.refl _ _).drew : Below w5.heap.size w5 w5.drew)
        replace zx := zx.on ((Below.refl _ _).drew : Below w5.heap.size w5 w5.drew)
        replace BW := Lib.hid (Below.step BW ((Below.refl _ _).drew : Below w5.heap.size w5 w5.drew))
        go_region_held3 (fun w' => w'.cell? ⟨(w.heap.size + 1), 0, none⟩ = some (.bool false) ∧ w'.cell? ⟨(w.heap.size + 1), 1, none⟩ = some (.slice A n c) ∧ w'.cell? ⟨(w.heap.size + 1), 2, none⟩ = some (.int .i64 e) ∧ w'.cell? ⟨w2.heap.size, 0, none⟩ = some (.bool false) ∧ w'.cell? ⟨w2.heap.size, 1, none⟩ = some (.slice Vx vx cx) ∧ w'.cell? ⟨w2.heap.size, 2, none⟩ = some (.int .i64 xe))
          ((first | exact ⟨z1.cells.1, z1.cells.2.1, z1.cells.2.2.1, zx.cells.1, zx.cells.2.1, zx.cells.2.2.1⟩))
          (first
            | (go_at_call 56
               (with_reducible refine (rplain_any h (by omega) (by omega) (by omega) HD.out).mono ?_)
               rintro en w6 ⟨V_rd, v_rd, c_rd, rfl, rd, b⟩
               replace z0 := z0.on b
               replace z1 := z1.on b
               replace h := h.on b
               replace rx := rx.on b
               replace zx := zx.on b
               replace BW := Lib.hid (Below.step BW.out b)
               have ld := rd.le (k := 100000) hdl
               clear b)
            | (go_at_call 71
               (with_reducible refine (rsize_as _).mono ?_)
               rintro en w7 ⟨rfl, b⟩
               replace z0 := z0.on b
               replace z1 := z1.on b
               replace h := h.on b
               replace rx := rx.on b
               replace zx := zx.on b
               replace rd := rd.on b
               replace BW := Lib.hid (Below.step BW.out b)
               clear b)
            | (go_at_call 69
               (with_reducible refine (rCmp_as rx rd (by omega) (by omega) HQ).mono ?_)
               rintro en w8 ⟨rfl, b⟩
               replace z0 := z0.on b
               replace z1 := z1.on b
               replace h := h.on b
               replace rx := rx.on b
               replace zx := zx.on b
               replace rd := rd.on b
               replace BW := Lib.hid (Below.step BW.out b)
               clear b))
        replace BW := BW.out
        all_goals (
          obtain ⟨z0c0, z0c1, z0c2, z0f0, z0f1, z0f2, z0l⟩ := z0.cells
          obtain ⟨z1c0, z1c1, z1c2, z1f0, z1f1, z1f2, z1l⟩ := z1.cells
          obtain ⟨zxc0, zxc1, zxc2, zxf0, zxf1, zxf2, zxl⟩ := zx.cells
          go_wp2_with fail
          refine (HTY.out _ h).mono ?_
          rintro en w9 ⟨rfl, b⟩
          clear z0c0 z0c1 z0c2 z0f0 z0f1 z0f2 z0l z1c0 z1c1 z1c2 z1f0 z1f1 z1f2 z1l zxc0 zxc1 zxc2 zxf0 zxf1 zxf2 zxl
          replace z0 := z0.on b
          replace z1 := z1.on b
          replace h := h.on b
          replace rx := rx.on b
          replace zx := zx.on b
          replace rd := rd.on b
          replace BW := Below.step BW b
          clear b
          obtain ⟨z0c0, z0c1, z0c2, z0f0, z0f1, z0f2, z0l⟩ := z0.cells
          obtain ⟨z1c0, z1c1, z1c2, z1f0, z1f1, z1f2, z1l⟩ := z1.cells
          obtain ⟨zxc0, zxc1, zxc2, zxf0, zxf1, zxf2, zxl⟩ := zx.cells
          go_wp2_with fail
          refine (rput_as hf rx (by omega) HPU.out).mono ?_
          rintro en w10 ⟨rfl, b⟩
          clear z0c0 z0c1 z0c2 z0f0 z0f1 z0f2 z0l z1c0 z1c1 z1c2 z1f0 z1f1 z1f2 z1l zxc0 zxc1 zxc2 zxf0 zxf1 zxf2 zxl
          replace z0 := z0.on b
          replace z1 := z1.on b
          replace h := h.on b
          replace rx := rx.on b
          replace zx := zx.on b
          replace rd := rd.on b
          replace BW := Below.step BW b
          clear b
          obtain ⟨z0c0, z0c1, z0c2, z0f0, z0f1, z0f2, z0l⟩ := z0.cells
          obtain ⟨z1c0, z1c1, z1c2, z1f0, z1f1, z1f2, z1l⟩ := z1.cells
          obtain ⟨zxc0, zxc1, zxc2, zxf0, zxf1, zxf2, zxl⟩ := zx.cells
          go_wp2_with fail
          refine bodyPost_ret (v := .tuple #[.int .u64 ((b : Int)), .int .i64 3, .int .i64 0]) (by simp [results, Tryz.results39, go_sem]) rfl ?_
          exact ⟨rfl, BW⟩)
set_option maxHeartbeats 4000000 in
set_option maxRecDepth 100000 in
theorem rto_neg {ng0 : Bool} {B P W M E H : Nat} {low : Int} (hf : Fm B P W M E H low) {A : Option Addr} {n c x : Nat} {e : Int} {w : World} (h : BR w A n c x) (hn : n ≤ 100000) (mode : Int) {gv xx gx : Nat} {xe ge q s : Int} {dn : Bool} {dx : Nat} {de : Int} (d1 : decide (mode < 0) = false) (d2 : decide (4 < mode) = false) (HM : Hid (mayR ⟨true, x, e⟩ = true)) (d0 : ((n : Int) == 0) = false)
    (HCH : Hid (∀ V, BR V A n c x → Calls Tryz.prog 67 #[.agg #[.int .i64 (B : Int), .int .i64 (P : Int), .int .i64 (W : Int)], .int .i64 mode, .agg #[.bool true, .slice A n c, .int .i64 e]] V (RPx V false xx xe))) (hlx : blen xx ≤ 100000)
    (HGR : Hid (∀ V, Calls Tryz.prog 68 #[.agg #[.int .i64 (B : Int), .int .i64 (P : Int), .int .i64 (W : Int)], .bool false] V fun en w' => en = .returned (.int .u64 (gv : Int)) ∧ Below V.heap.size V w'))
    (HVA : Hid (∀ V, Calls Tryz.prog 36 #[.agg #[.int .i64 (B : Int), .int .i64 (P : Int), .int .i64 (W : Int)], .int .u64 (gv : Int)] V (RDx V false gx ge 0))) (hlg : blen gx ≤ 100000)
    (HC : Hid (cmpS ⟨false, xx, xe⟩ ⟨false, gx, ge⟩ = (q, 0))) (hq : q = -1 ∨ q = 0) (HD : Hid (D.pl ⟨true, x, e⟩ = ⟨dn, dx, de⟩)) (hdl : blen dx ≤ 100000) (he1 : -1000000 ≤ e) (he2 : e ≤ 1000000) (HQ : Hid (cmpS ⟨false, xx, xe⟩ ⟨false, dx, de⟩ = (s, 0)))
    {ty : Bool} (HTY : Hid (∀ V, BR V A n c x → Calls Tryz.prog 72 #[.agg #[.int .i64 (B : Int), .int .i64 (P : Int), .int .i64 (W : Int)], .agg #[.bool true, .slice A n c, .int .i64 e]] V fun en w' => en = .returned (.bool ty) ∧ Below V.heap.size V w')) {b : Nat} {pe : Int} (HPU : Hid (putS P M E H low ⟨false, xx, xe⟩ = (b, pe))) (HBU : Hid (∀ V, Calls Tryz.prog 30 #[.agg #[.int .i64 (B : Int), .int .i64 (P : Int), .int .i64 (W : Int)], .bool true, .int .u64 0, .int .u64 0] V fun en w' => en = .returned (.int .u64 (H : Int)) ∧ Below V.heap.size V w')) (hbh : b + H < 18446744073709551616) :
    Calls Tryz.prog 39 #[.agg #[.int .i64 (B : Int), .int .i64 (P : Int), .int .i64 (W : Int)], .int .i64 mode, .agg #[.bool true, .slice A n c, .int .i64 e], .bool ng0] w fun en w' => en = .returned (.tuple #[.int .u64 ((b : Int) + (H : Int) : Int), .int .i64 (if s = 0 then 0 else if ty then 3 else 1), .int .i64 0]) ∧ Below w.heap.size w w' := by
  obtain ⟨r, hr⟩ : ∃ r : Int, (if s = 0 then 0 else if ty then 3 else 1) = r := ⟨_, rfl⟩
  rw [hr]
  have HF := Lib.hid hr
  clear hr
  have q7 : IntKind.u64.wrap ((b : Int) + (H : Int)) = (b : Int) + (H : Int) := by rw [← Int.natCast_add]; exact wrap64_nat _ (by omega)
  go_enter Tryz.func39, Tryz.ntmps39
  go_wp2_with fail
  obtain ⟨V, hV, z0, z1, BW, sW⟩ := fframe2 w 29 71 (B : Int) (P : Int) (W : Int) true A n c e
  rw [hV]
  clear hV sW
  replace h := h.on BW
  refine (rmayR_as h hn true HM.out).mono ?_
  rintro en w1 ⟨rfl, b⟩
  replace z0 := z0.on b
  replace z1 := z1.on b
  replace h := h.on b
  replace BW := Below.step BW b
  clear b
  obtain ⟨z0c0, z0c1, z0c2, z0f0, z0f1, z0f2, z0l⟩ := z0.cells
  obtain ⟨z1c0, z1c1, z1c2, z1f0, z1f1, z1f2, z1l⟩ := z1.cells
  go_wp2_with fail
  refine (HCH.out _ h).mono ?_
  rintro en w2 ⟨Vx, vx, cx, rfl, rx, b⟩
  clear z0c0 z0c1 z0c2 z0f0 z0f1 z0f2 z0l z1c0 z1c1 z1c2 z1f0 z1f1 z1f2 z1l
  replace z0 := z0.on b
  replace z1 := z1.on b
  replace h := h.on b
  replace BW := Below.step BW b
  clear b
  have lx := rx.le (k := 100000) hlx
  go_upto_region 8 with fail
  obtain ⟨w3, e_w3⟩ : ∃ w', w2.alloc (dob false Vx vx cx xe 71) = w' := ⟨_, rfl⟩
  have b : Below w2.heap.size w2 w3 := e_w3 ▸ below_lit _ _
  have hs_w3 : w3.heap.size = w2.heap.size + 1 := e_w3 ▸ size_lit w2 _ rfl
  have zx : DB w3 w2.heap.size 71 false Vx vx cx xe := e_w3 ▸ DB.made w2 rfl 71 false Vx vx cx xe
  rw [e_w3]
  clear e_w3
  replace z0 := z0.on b
  replace z1 := z1.on b
  replace h := h.on b
  replace rx := rx.on b
  replace BW := Below.step BW b
  clear b
  clear hs_w3
  go_cut [12, 13] (CutNb w3 gx ge 0)
  case first =>
    have HS : Hid (∀ w', Below w3.heap.size w3 w' → w'.cell? ⟨w.heap.size, 0, none⟩ = some (.int .i64 (B : Int)) ∧ w'.cell? ⟨w.heap.size, 1, none⟩ = some (.int .i64 (P : Int)) ∧ w'.cell? ⟨w.heap.size, 2, none⟩ = some (.int .i64 (W : Int))) := fun w' hb => by
      obtain ⟨p0, p1, p2, _⟩ := (z0.on hb).cells
      exact ⟨p0, p1, p2⟩
    have kk : Below w3.heap.size w3 w3.drew := (Below.refl _ _).drew
    have kd : Below w3.heap.size w3 (w3.alloc (dob false none 0 0 0 71)).drew := (below_more' (Below.refl _ _) _).drew
    clear z0 z1 h rx zx BW
    go_region_held3 (fun w' => w'.cell? ⟨w.heap.size, 0, none⟩ = some (.int .i64 (B : Int)) ∧ w'.cell? ⟨w.heap.size, 1, none⟩ = some (.int .i64 (P : Int)) ∧ w'.cell? ⟨w.heap.size, 2, none⟩ = some (.int .i64 (W : Int)))
      ((refine HS.out _ ?_; first | (with_reducible assumption) | (with_reducible exact below_more' (by assumption) _) | ((with_reducible refine below_put3 ?_ ?_ _ _ _) <;> first | (with_reducible assumption) | omega)))
      (first
      | (go_at_call 68
         refine (HGR.out _).mono ?_
         rintro e v6 ⟨rfl, b6⟩
         have kk := Below.step (show Below w3.heap.size w3 _ from (by first | (with_reducible assumption) | (with_reducible exact below_more' (by assumption) _))) b6
         have hz6 := kk.size
         have b6 := Lib.hid b6)
      | (go_at_call 36
         refine (HVA.out _).mono ?_
         rintro e v8 ⟨B3, m3, d3, rfl, r3, b8⟩
         have kk := Below.step (show Below w3.heap.size w3 _ from (by first | (with_reducible assumption) | (with_reducible exact below_more' (by assumption) _))) b8
         have hz8 := kk.size
         have r3 := Lib.hid r3
         first | (have zz := ((DB.made_drew' w3 rfl 71 false none 0 0 0).on b6.out).on b8; obtain ⟨p0, p1, p2, g0, g1, g2, _⟩ := zz.cells; have zz := Lib.hid zz) | (have zz := (DB.made v6 rfl 71 false none 0 0 0).on b8; obtain ⟨p0, p1, p2, g0, g1, g2, _⟩ := zz.cells; have zz := Lib.hid zz) | skip
         clear b8))
    all_goals go_wp2_with fail
    all_goals go_meet
    all_goals (first | (exact ⟨_, B3, m3, d3, rfl, rfl, zz.out.put_d false B3 m3 d3 ge, zz.out.br tRD r3.out _ _ _, (by first | exact Nat.le_refl _ | omega), below_put3 kk (by omega) _ _ _⟩) | (exact ⟨_, B3, m3, d3, rfl, rfl, DB.made v8 rfl 71 false B3 m3 d3 ge, r3.out.on (below_lit _ _), (by omega), below_more' kk _⟩))
  case rest =>
    obtain ⟨gzh, Azh, nzh, czh, rfl, rfl, zh, rh, hg, b⟩ := hcut
    clear hg
    obtain ⟨w4, rfl⟩ : ∃ w4 : World, w4 = wc := ⟨_, rfl⟩
    replace z0 := z0.on b
    replace z1 := z1.on b
    replace h := h.on b
    replace rx := rx.on b
    replace zx := zx.on b
    replace BW := Below.step BW b
    clear b
    have lh := rh.le (k := 100000) hlg
    obtain ⟨z0c0, z0c1, z0c2, z0f0, z0f1, z0f2, z0l⟩ := z0.cells
    obtain ⟨z1c0, z1c1, z1c2, z1f0, z1f1, z1f2, z1l⟩ := z1.cells
    obtain ⟨zxc0, zxc1, zxc2, zxf0, zxf1, zxf2, zxl⟩ := zx.cells
    obtain ⟨zhc0, zhc1, zhc2, zhf0, zhf1, zhf2, zhl⟩ := zh.cells
    go_wp2_with fail
    refine (rCmp_as rx rh (by omega) (by omega) HC).mono ?_
    rintro en w5 ⟨rfl, b⟩
    clear z0c0 z0c1 z0c2 z0f0 z0f1 z0f2 z0l z1c0 z1c1 z1c2 z1f0 z1f1 z1f2 z1l zxc0 zxc1 zxc2 zxf0 zxf1 zxf2 zxl zhc0 zhc1 zhc2 zhf0 zhf1 zhf2 zhl
    replace z0 := z0.on b
    replace z1 := z1.on b
    replace h := h.on b
    replace rx := rx.on b
    replace zx := zx.on b
    replace zh := zh.on b
    replace rh := rh.on b
    replace BW := Below.step BW b
    clear b
    clear rh zh
    clear HC HVA HGR HCH HM
    have d4 : decide (0 < q) = false := by rcases hq with rfl | rfl <;> rfl
    clear hq
    by_cases hs : s = 0
    · subst hs
      obtain rfl : r = 0 := by rw [← HF.out, if_pos rfl]
      clear HTY HF
      obtain ⟨z0c0, z0c1, z0c2, z0f0, z0f1, z0f2, z0l⟩ := z0.cells
      obtain ⟨z1c0, z1c1, z1c2, z1f0, z1f1, z1f2, z1l⟩ := z1.cells
      obtain ⟨zxc0, zxc1, zxc2, zxf0, zxf1, zxf2, zxl⟩ := zx.cells
      go_upto_region 13 with fail
      clear z0c0 z0c1 z0c2 z0f0 z0f1 z0f2 z0l z1c0 z1c1 z1c2 z1f0 z1f1 z1f2 z1l zxc0 zxc1 zxc2 zxf0 zxf1 zxf2 zxl
      replace z0 := z0.on ((Below.refl _ _).drew : Below w5.heap.size w5 w5.drew)
      replace z1 := z1.on ((Below.refl _ _).drew : Below w5.heap.size w5 w5.drew)
      replace h := h.on ((Below.refl _ _).drew : Below w5.heap.size w5 w5.drew)
      replace rx := rx.on ((Below.refl _ _).drew : Below w5.heap.size w5 w5.drew)
      replace zx := zx.on ((Below.refl _ _).drew : Below w5.heap.size w5 w5.drew)
      replace BW := Lib.hid (Below.step BW ((Below.refl _ _).drew : Below w5.heap.size w5 w5.drew))
      go_region_held3 (fun w' => w'.cell? ⟨(w.heap.size + 1), 0, none⟩ = some (.bool true) ∧ w'.cell? ⟨(w.heap.size + 1), 1, none⟩ = some (.slice A n c) ∧ w'.cell? ⟨(w.heap.size + 1), 2, none⟩ = some (.int .i64 e) ∧ w'.cell? ⟨w2.heap.size, 0, none⟩ = some (.bool false) ∧ w'.cell? ⟨w2.heap.size, 1, none⟩ = some (.slice Vx vx cx) ∧ w'.cell? ⟨w2.heap.size, 2, none⟩ = some (.int .i64 xe))
        ((first | exact ⟨z1.cells.1, z1.cells.2.1, z1.cells.2.2.1, zx.cells.1, zx.cells.2.1, zx.cells.2.2.1⟩))
        (first
          | (go_at_call 56
             (with_reducible refine (rplain_any h (by omega) (by omega) (by omega) HD.out).mono ?_)
             rintro en w6 ⟨V_rd, v_rd, c_rd, rfl, rd, b⟩
             replace z0 := z0.on b
             replace z1 := z1.on b
             replace h := h.on b
             replace rx := rx.on b
             replace zx := zx.on b
             replace BW := Lib.hid (Below.step BW.out b)
             have ld := rd.le (k := 100000) hdl
             clear b)
          | (go_at_call 71
             (with_reducible refine (rsize_as _).mono ?_)
             rintro en w7 ⟨rfl, b⟩
             replace z0 := z0.on b
             replace z1 := z1.on b
             replace h := h.on b
             replace rx := rx.on b
             replace zx := zx.on b
             replace rd := rd.on b
             replace BW := Lib.hid (Below.step BW.out b)
             clear b)
          | (go_at_call 69
             (with_reducible refine (rCmp_as rx rd (by omega) (by omega) HQ).mono ?_)
             rintro en w8 ⟨rfl, b⟩
             replace z0 := z0.on b
             replace z1 := z1.on b
             replace h := h.on b
             replace rx := rx.on b
             replace zx := zx.on b
             replace rd := rd.on b
             replace BW := Lib.hid (Below.step BW.out b)
             clear b))
      replace BW := BW.out
      all_goals (
        obtain ⟨z0c0, z0c1, z0c2, z0f0, z0f1, z0f2, z0l⟩ := z0.cells
        obtain ⟨z1c0, z1c1, z1c2, z1f0, z1f1, z1f2, z1l⟩ := z1.cells
        obtain ⟨zxc0, zxc1, zxc2, zxf0, zxf1, zxf2, zxl⟩ := zx.cells
        go_wp2_with fail
        refine (rput_as hf rx (by omega) HPU.out).mono ?_
        rintro en w9 ⟨rfl, b⟩
        clear z0c0 z0c1 z0c2 z0f0 z0f1 z0f2 z0l z1c0 z1c1 z1c2 z1f0 z1f1 z1f2 z1l zxc0 zxc1 zxc2 zxf0 zxf1 zxf2 zxl
        replace z0 := z0.on b
        replace z1 := z1.on b
        replace h := h.on b
        replace rx := rx.on b
        replace zx := zx.on b
        replace rd := rd.on b
        replace BW := Below.step BW b
        clear b
        obtain ⟨z0c0, z0c1, z0c2, z0f0, z0f1, z0f2, z0l⟩ := z0.cells
        obtain ⟨z1c0, z1c1, z1c2, z1f0, z1f1, z1f2, z1l⟩ := z1.cells
        obtain ⟨zxc0, zxc1, zxc2, zxf0, zxf1, zxf2, zxl⟩ := zx.cells
        go_wp2_with fail
        refine (HBU.out _).mono ?_
        rintro en w10 ⟨rfl, b⟩
        clear z0c0 z0c1 z0c2 z0f0 z0f1 z0f2 z0l z1c0 z1c1 z1c2 z1f0 z1f1 z1f2 z1l zxc0 zxc1 zxc2 zxf0 zxf1 zxf2 zxl
        replace z0 := z0.on b
        replace z1 := z1.on b
        replace h := h.on b
        replace rx := rx.on b
        replace zx := zx.on b
        replace rd := rd.on b
        replace BW := Below.step BW b
        clear b
        go_wp2_with fail
        refine bodyPost_ret (v := .tuple #[.int .u64 ((b : Int) + (H : Int)), .int .i64 0, .int .i64 0]) (by simp [results, Tryz.results39, go_sem]) rfl ?_
        exact ⟨rfl, BW⟩)
    · have d3 : (s == 0) = false := by simpa using hs
      cases ty
      · obtain rfl : r = 1 := by rw [← HF.out, if_neg hs, if_neg (by decide)]
        clear HF
        obtain ⟨z0c0, z0c1, z0c2, z0f0, z0f1, z0f2, z0l⟩ := z0.cells
        obtain ⟨z1c0, z1c1, z1c2, z1f0, z1f1, z1f2, z1l⟩ := z1.cells
        obtain ⟨zxc0, zxc1, zxc2, zxf0, zxf1, zxf2, zxl⟩ := zx.cells
        go_upto_region 13 with fail
        clear z0c0 z0c1 z0c2 z0f0 z0f1 z0f2 z0l z1c0 z1c1 z1c2 z1f0 z1f1 z1f2 z1l zxc0 zxc1 zxc2 zxf0 zxf1 zxf2 zxl
        replace z0 := z0.on ((Below.refl _ _).drew : Below w5.heap.size w5 w5.drew)
        replace z1 := z1.on ((Below.refl _ _).drew : Below w5.heap.size w5 w5.drew)
        replace h := h.on ((Below.refl _ _).drew : Below w5.heap.size w5 w5.drew)
        replace rx := rx.on ((Below.refl _ _).drew : Below w5.heap.size w5 w5.drew)
        replace zx := zx.on ((Below.refl _ _).drew : Below w5.heap.size w5 w5.drew)
        replace BW := Lib.hid (Below.step BW ((Below.refl _ _).drew : Below w5.heap.size w5 w5.drew))
        go_region_held3 (fun w' => w'.cell? ⟨(w.heap.size + 1), 0, none⟩ = some (.bool true) ∧ w'.cell? ⟨(w.heap.size + 1), 1, none⟩ = some (.slice A n c) ∧ w'.cell? ⟨(w.heap.size + 1), 2, none⟩ = some (.int .i64 e) ∧ w'.cell? ⟨w2.heap.size, 0, none⟩ = some (.bool false) ∧ w'.cell? ⟨w2.heap.size, 1, none⟩ = some (.slice Vx vx cx) ∧ w'.cell? ⟨w2.heap.size, 2, none⟩ = some (.int .i64 xe))
          ((first | exact ⟨z1.cells.1, z1.cells.2.1, z1.cells.2.2.1, zx.cells.1, zx.cells.2.1, zx.cells.2.2.1⟩))
          (first
            | (go_at_call 56
               (with_reducible refine (rplain_any h (by omega) (by omega) (by omega) HD.out).mono ?_)
               rintro en w6 ⟨V_rd, v_rd, c_rd, rfl, rd, b⟩
               replace z0 := z0.on b
               replace z1 := z1.on b
               replace h := h.on b
               replace rx := rx.on b
               replace zx := zx.on b
               replace BW := Lib.hid (Below.step BW.out b)
               have ld := rd.le (k := 100000) hdl
               clear b)
            | (go_at_call 71
               (with_reducible refine (rsize_as _).mono ?_)
               rintro en w7 ⟨rfl, b⟩
               replace z0 := z0.on b
               replace z1 := z1.on b
               replace h := h.on b
               replace rx := rx.on b
               replace zx := zx.on b
               replace rd := rd.on b
               replace BW := Lib.hid (Below.step BW.out b)
               clear b)
            | (go_at_call 69
               (with_reducible refine (rCmp_as rx rd (by omega) (by omega) HQ).mono ?_)
               rintro en w8 ⟨rfl, b⟩
               replace z0 := z0.on b
               replace z1 := z1.on b
               replace h := h.on b
               replace rx := rx.on b
               replace zx := zx.on b
               replace rd := rd.on b
               replace BW := Lib.hid (Below.step BW.out b)
               clear b))
        replace BW := BW.out
        all_goals (
          obtain ⟨z0c0, z0c1, z0c2, z0f0, z0f1, z0f2, z0l⟩ := z0.cells
          obtain ⟨z1c0, z1c1, z1c2, z1f0, z1f1, z1f2, z1l⟩ := z1.cells
          obtain ⟨zxc0, zxc1, zxc2, zxf0, zxf1, zxf2, zxl⟩ := zx.cells
          go_wp2_with fail
          refine (HTY.out _ h).mono ?_
          rintro en w9 ⟨rfl, b⟩
          clear z0c0 z0c1 z0c2 z0f0 z0f1 z0f2 z0l z1c0 z1c1 z1c2 z1f0 z1f1 z1f2 z1l zxc0 zxc1 zxc2 zxf0 zxf1 zxf2 zxl
          replace z0 := z0.on b
          replace z1 := z1.on b
          replace h := h.on b
          replace rx := rx.on b
          replace zx := zx.on b
          replace rd := rd.on b
          replace BW := Below.step BW b
          clear b
          obtain ⟨z0c0, z0c1, z0c2, z0f0, z0f1, z0f2, z0l⟩ := z0.cells
          obtain ⟨z1c0, z1c1, z1c2, z1f0, z1f1, z1f2, z1l⟩ := z1.cells
          obtain ⟨zxc0, zxc1, zxc2, zxf0, zxf1, zxf2, zxl⟩ := zx.cells
          go_wp2_with fail
          refine (rput_as hf rx (by omega) HPU.out).mono ?_
          rintro en w10 ⟨rfl, b⟩
          clear z0c0 z0c1 z0c2 z0f0 z0f1 z0f2 z0l z1c0 z1c1 z1c2 z1f0 z1f1 z1f2 z1l zxc0 zxc1 zxc2 zxf0 zxf1 zxf2 zxl
          replace z0 := z0.on b
          replace z1 := z1.on b
          replace h := h.on b
          replace rx := rx.on b
          replace zx := zx.on b
          replace rd := rd.on b
          replace BW := Below.step BW b
          clear b
          obtain ⟨z0c0, z0c1, z0c2, z0f0, z0f1, z0f2, z0l⟩ := z0.cells
          obtain ⟨z1c0, z1c1, z1c2, z1f0, z1f1, z1f2, z1l⟩ := z1.cells
          obtain ⟨zxc0, zxc1, zxc2, zxf0, zxf1, zxf2, zxl⟩ := zx.cells
          go_wp2_with fail
          refine (HBU.out _).mono ?_
          rintro en w11 ⟨rfl, b⟩
          clear z0c0 z0c1 z0c2 z0f0 z0f1 z0f2 z0l z1c0 z1c1 z1c2 z1f0 z1f1 z1f2 z1l zxc0 zxc1 zxc2 zxf0 zxf1 zxf2 zxl
          replace z0 := z0.on b
          replace z1 := z1.on b
          replace h := h.on b
          replace rx := rx.on b
          replace zx := zx.on b
          replace rd := rd.on b
          replace BW := Below.step BW b
          clear b
          go_wp2_with fail
          refine bodyPost_ret (v := .tuple #[.int .u64 ((b : Int) + (H : Int)), .int .i64 1, .int .i64 0]) (by simp [results, Tryz.results39, go_sem]) rfl ?_
          exact ⟨rfl, BW⟩)
      · obtain rfl : r = 3 := by rw [← HF.out, if_neg hs, if_pos rfl]
        clear HF
        obtain ⟨z0c0, z0c1, z0c2, z0f0, z0f1, z0f2, z0l⟩ := z0.cells
        obtain ⟨z1c0, z1c1, z1c2, z1f0, z1f1, z1f2, z1l⟩ := z1.cells
        obtain ⟨zxc0, zxc1, zxc2, zxf0, zxf1, zxf2, zxl⟩ := zx.cells
        go_upto_region 13 with fail
        clear z0c0 z0c1 z0c2 z0f0 z0f1 z0f2 z0l z1c0 z1c1 z1c2 z1f0 z1f1 z1f2 z1l zxc0 zxc1 zxc2 zxf0 zxf1 zxf2 zxl
        replace z0 := z0.on ((Below.refl _ _).drew : Below w5.heap.size w5 w5.drew)
        replace z1 := z1.on ((Below.refl _ _).drew : Below w5.heap.size w5 w5.drew)
        replace h := h.on ((Below.refl _ _).drew : Below w5.heap.size w5 w5.drew)
        replace rx := rx.on ((Below.refl _ _).drew : Below w5.heap.size w5 w5.drew)
        replace zx := zx.on ((Below.refl _ _).drew : Below w5.heap.size w5 w5.drew)
        replace BW := Lib.hid (Below.step BW ((Below.refl _ _).drew : Below w5.heap.size w5 w5.drew))
        go_region_held3 (fun w' => w'.cell? ⟨(w.heap.size + 1), 0, none⟩ = some (.bool true) ∧ w'.cell? ⟨(w.heap.size + 1), 1, none⟩ = some (.slice A n c) ∧ w'.cell? ⟨(w.heap.size + 1), 2, none⟩ = some (.int .i64 e) ∧ w'.cell? ⟨w2.heap.size, 0, none⟩ = some (.bool false) ∧ w'.cell? ⟨w2.heap.size, 1, none⟩ = some (.slice Vx vx cx) ∧ w'.cell? ⟨w2.heap.size, 2, none⟩ = some (.int .i64 xe))
          ((first | exact ⟨z1.cells.1, z1.cells.2.1, z1.cells.2.2.1, zx.cells.1, zx.cells.2.1, zx.cells.2.2.1⟩))
          (first
            | (go_at_call 56
               (with_reducible refine (rplain_any h (by omega) (by omega) (by omega) HD.out).mono ?_)
               rintro en w6 ⟨V_rd, v_rd, c_rd, rfl, rd, b⟩
               replace z0 := z0.on b
               replace z1 := z1.on b
               replace h := h.on b
               replace rx := rx.on b
               replace zx := zx.on b
               replace BW := Lib.hid (Below.step BW.out b)
               have ld := rd.le (k := 100000) hdl
               clear b)
            | (go_at_call 71
               (with_reducible refine (rsize_as _).mono ?_)
               rintro en w7 ⟨rfl, b⟩
               replace z0 := z0.on b
               replace z1 := z1.on b
               replace h := h.on b
               replace rx := rx.on b
               replace zx := zx.on b
               replace rd := rd.on b
               replace BW := Lib.hid (Below.step BW.out b)
               clear b)
            | (go_at_call 69
               (with_reducible refine (rCmp_as rx rd (by omega) (by omega) HQ).mono ?_)
               rintro en w8 ⟨rfl, b⟩
               replace z0 := z0.on b
               replace z1 := z1.on b
               replace h := h.on b
               replace rx := rx.on b
               replace zx := zx.on b
               replace rd := rd.on b
               replace BW := Lib.hid (Below.step BW.out b)
               clear b))
        replace BW := BW.out
        all_goals (
          obtain ⟨z0c0, z0c1, z0c2, z0f0, z0f1, z0f2, z0l⟩ := z0.cells
          obtain ⟨z1c0, z1c1, z1c2, z1f0, z1f1, z1f2, z1l⟩ := z1.cells
          obtain ⟨zxc0, zxc1, zxc2, zxf0, zxf1, zxf2, zxl⟩ := zx.cells
          go_wp2_with fail
          refine (HTY.out _ h).mono ?_
          rintro en w9 ⟨rfl, b⟩
          clear z0c0 z0c1 z0c2 z0f0 z0f1 z0f2 z0l z1c0 z1c1 z1c2 z1f0 z1f1 z1f2 z1l zxc0 zxc1 zxc2 zxf0 zxf1 zxf2 zxl
          replace z0 := z0.on b
          replace z1 := z1.on b
          replace h := h.on b
          replace rx := rx.on b
          replace zx := zx.on b
          replace rd := rd.on b
          replace BW := Below.step BW b
          clear b
          obtain ⟨z0c0, z0c1, z0c2, z0f0, z0f1, z0f2, z0l⟩ := z0.cells
          obtain ⟨z1c0, z1c1, z1c2, z1f0, z1f1, z1f2, z1l⟩ := z1.cells
          obtain ⟨zxc0, zxc1, zxc2, zxf0, zxf1, zxf2, zxl⟩ := zx.cells
          go_wp2_with fail
          refine (rput_as hf rx (by omega) HPU.out).mono ?_
          rintro en w10 ⟨rfl, b⟩
          clear z0c0 z0c1 z0c2 z0f0 z0f1 z0f2 z0l z1c0 z1c1 z1c2 z1f0 z1f1 z1f2 z1l zxc0 zxc1 zxc2 zxf0 zxf1 zxf2 zxl
          replace z0 := z0.on b
          replace z1 := z1.on b
          replace h := h.on b
          replace rx := rx.on b
          replace zx := zx.on b
          replace rd := rd.on b
          replace BW := Below.step BW b
          clear b
          obtain ⟨z0c0, z0c1, z0c2, z0f0, z0f1, z0f2, z0l⟩ := z0.cells
          obtain ⟨z1c0, z1c1, z1c2, z1f0, z1f1, z1f2, z1l⟩ := z1.cells
          obtain ⟨zxc0, zxc1, zxc2, zxf0, zxf1, zxf2, zxl⟩ := zx.cells
          go_wp2_with fail
          refine (HBU.out _).mono ?_
          rintro en w11 ⟨rfl, b⟩
          clear z0c0 z0c1 z0c2 z0f0 z0f1 z0f2 z0l z1c0 z1c1 z1c2 z1f0 z1f1 z1f2 z1l zxc0 zxc1 zxc2 zxf0 zxf1 zxf2 zxl
          replace z0 := z0.on b
          replace z1 := z1.on b
          replace h := h.on b
          replace rx := rx.on b
          replace zx := zx.on b
          replace rd := rd.on b
          replace BW := Below.step BW b
          clear b
          go_wp2_with fail
          refine bodyPost_ret (v := .tuple #[.int .u64 ((b : Int) + (H : Int)), .int .i64 3, .int .i64 0]) (by simp [results, Tryz.results39, go_sem]) rfl ?_
          exact ⟨rfl, BW⟩)
end Go.Proofs.YtpachoeignpcbaaGreatDoor
