
/-
  The walk of the reference's Floor (layer 2), for later layers (Dtells holds it, too: neither imports the other).
-/
import Derived.Test.YtkjbejdeejpdoaaDoorRd
import Derived.Test.YtkjbejdeejpdoaaDoorDj
namespace Go.Proofs.YtkjbejdeejpdoaaDoor
open Go.RowKit
set_option linter.unusedVariables false

def FlR (w : World) (rn : Bool) (rx : Nat) (re : Int) (bl : Bool) (err : Int) (e : Ending) (w' : World) : Prop := ∃ A n c, e = .returned (.tuple #[.agg #[.bool rn, .slice A n c, .int .i64 re], .bool bl, .int .i64 err]) ∧ BR w' A n c rx ∧ Below w.heap.size w w'
set_option maxHeartbeats 1000000 in
theorem rfloor_err {A : Option Addr} {n c x : Nat} {neg : Bool} {e at_ : Int} {w : World} {rn : Bool} {rx : Nat} {re : Int} {bl : Bool} {err : Int} (h : BR w A n c x) (hn : n ≤ 100000) (HM : Hid (D.may ⟨neg, x, e⟩ = false)) (hr : floorS ⟨neg, x, e⟩ at_ = (⟨rn, rx, re⟩, bl, err)) :
    Calls Tryd.prog 41 #[.agg #[.bool neg, .slice A n c, .int .i64 e], .int .i64 at_] w (FlR w rn rx re bl err) := by
  rw [floorS_err _ HM.out] at hr
  injection hr with hr hr2
  injection hr with i1' i2' i3'
  injection hr2 with j1 j2
  subst i1' i2' i3' j1 j2
  go_enter Tryd.func41, Tryd.ntmps41
  go_wp2_with fail
  obtain ⟨W, hW, z0, z1, BW, sW⟩ := frame2 w 41 41 neg A n c e false none 0 0 0
  rw [hW]
  clear hW
  refine (rmay_any false (h.on BW) (by omega) HM.out).mono ?_
  rintro en w1 ⟨rfl, b⟩
  replace z0 := z0.on b
  replace z1 := z1.on b
  replace BW := Below.step BW b
  clear b
  obtain ⟨p0, p1, p2, g0, g1, g2, hl3⟩ := z1.cells
  go_wp2_with fail
  refine bodyPost_ret (v := .tuple #[.agg #[.bool false, .slice none 0 0, .int .i64 0], .bool false, .int .i64 3]) (by simp [results, Tryd.results41, go_sem, p0, p1, p2]) rfl ?_
  exact ⟨none, 0, 0, rfl, BR.none_ _, below_put3 BW (by omega) _ _ _⟩

set_option maxHeartbeats 1000000 in
theorem rfloor_arg {A : Option Addr} {n c x : Nat} {neg : Bool} {e at_ : Int} {w : World} {rn : Bool} {rx : Nat} {re : Int} {bl : Bool} {err : Int} (h : BR w A n c x) (hn : n ≤ 100000) (HM : Hid (D.may ⟨neg, x, e⟩ = true)) (hp : at_ < -8192 ∨ -8192 ≤ at_ ∧ 8192 < at_) (hr : floorS ⟨neg, x, e⟩ at_ = (⟨rn, rx, re⟩, bl, err)) :
    Calls Tryd.prog 41 #[.agg #[.bool neg, .slice A n c, .int .i64 e], .int .i64 at_] w (FlR w rn rx re bl err) := by
  rw [floorS_arg HM.out (by have := (plB_iff at_).1; cases hb : plB at_; rfl; exact absurd (this hb) (by omega))] at hr
  injection hr with hr hr2
  injection hr with i1' i2' i3'
  injection hr2 with j1 j2
  subst i1' i2' i3' j1 j2
  rcases hp with hp | ⟨hp, hp2⟩
  all_goals
    go_enter Tryd.func41, Tryd.ntmps41
    go_wp2_with fail
    obtain ⟨W, hW, z0, z1, BW, sW⟩ := frame2 w 41 41 neg A n c e false none 0 0 0
    rw [hW]
    clear hW
    refine (rmay_any true (h.on BW) (by omega) HM.out).mono ?_
    rintro en w1 ⟨rfl, b⟩
    replace z0 := z0.on b
    replace z1 := z1.on b
    replace BW := Below.step BW b
    clear b
    obtain ⟨p0, p1, p2, g0, g1, g2, hl3⟩ := z1.cells
    go_wp2_with fail
    refine bodyPost_ret (v := .tuple #[.agg #[.bool false, .slice none 0 0, .int .i64 0], .bool false, .int .i64 1]) (by simp [results, Tryd.results41, go_sem, p0, p1, p2]) rfl ?_
    exact ⟨none, 0, 0, rfl, BR.none_ _, below_put3 BW (by omega) _ _ _⟩

set_option maxHeartbeats 1000000 in
theorem rfloor_ge {A : Option Addr} {n c x : Nat} {neg : Bool} {e at_ : Int} {w : World} {rn : Bool} {rx : Nat} {re : Int} {bl : Bool} {err : Int} (h : BR w A n c x) (hn : n ≤ 100000) (HM : Hid (D.may ⟨neg, x, e⟩ = true)) (t1 : -8192 ≤ at_) (t2 : at_ ≤ 8192) (hge : at_ ≤ e) (hr : floorS ⟨neg, x, e⟩ at_ = (⟨rn, rx, re⟩, bl, err)) :
    Calls Tryd.prog 41 #[.agg #[.bool neg, .slice A n c, .int .i64 e], .int .i64 at_] w (FlR w rn rx re bl err) := by
  obtain ⟨m0, m1, m2⟩ := (D.may_iff _).1 HM.out
  simp only at m0 m1 m2
  unfold floorS at hr
  rw [HM.out, (plB_iff at_).2 ⟨t1, t2⟩, if_pos rfl, if_pos rfl, if_pos (show at_ ≤ (D.mk neg x e).e from hge)] at hr
  injection hr with hr hr2
  injection hr2 with j1 j2
  subst j1 j2
  have HD := Lib.hid hr
  clear hr
  go_enter Tryd.func41, Tryd.ntmps41
  go_wp2_with fail
  obtain ⟨W, hW, z0, z1, BW, sW⟩ := frame2 w 41 41 neg A n c e false none 0 0 0
  rw [hW]
  clear hW
  refine (rmay_any true (h.on BW) (by omega) HM.out).mono ?_
  rintro en w1 ⟨rfl, b⟩
  replace z0 := z0.on b
  replace z1 := z1.on b
  replace BW := Below.step BW b
  clear b
  obtain ⟨q0, q1, q2, i0, i1, i2, hl2⟩ := z0.cells
  go_wp2_with fail
  refine (rplain_any (h.on BW) (by omega) (by omega) (by omega) HD.out).mono ?_
  rintro en w2 ⟨V, v, d, rfl, rv, b⟩
  replace z1 := z1.on b
  replace BW := Below.step BW b
  clear b q0 q1 q2 i0 i1 i2
  obtain ⟨p0, p1, p2, g0, g1, g2, hl3⟩ := z1.cells
  go_wp2_with fail
  refine bodyPost_ret (v := .tuple #[.agg #[.bool rn, .slice V v d, .int .i64 re], .bool false, .int .i64 0]) (by simp [results, Tryd.results41, go_sem, p0, p1, p2]) rfl ?_
  exact ⟨V, v, d, rfl, z1.br tR rv _ _ _, below_put3 BW (by omega) _ _ _⟩

set_option maxHeartbeats 1000000 in
theorem rfloor_lt {A : Option Addr} {n c x : Nat} {neg : Bool} {e at_ : Int} {w : World} {rn : Bool} {rx : Nat} {re : Int} {bl : Bool} {err : Int} (h : BR w A n c x) (hn : n ≤ 100000) (HM : Hid (D.may ⟨neg, x, e⟩ = true)) (t1 : -8192 ≤ at_) (t2 : at_ ≤ 8192) (hlt : e < at_) (hr : floorS ⟨neg, x, e⟩ at_ = (⟨rn, rx, re⟩, bl, err)) :
    Calls Tryd.prog 41 #[.agg #[.bool neg, .slice A n c, .int .i64 e], .int .i64 at_] w (FlR w rn rx re bl err) := by
  obtain ⟨m0, m1, m2⟩ := (D.may_iff _).1 HM.out
  simp only at m0 m1 m2
  unfold floorS at hr
  rw [HM.out, (plB_iff at_).2 ⟨t1, t2⟩, if_pos rfl, if_pos rfl, if_neg (show ¬ at_ ≤ (D.mk neg x e).e by show ¬ at_ ≤ e; omega)] at hr
  injection hr with hr hr2
  injection hr2 with j1 j2
  simp only at hr j1
  subst j2
  have HD := Lib.hid hr
  have HBL := Lib.hid j1
  clear hr j1
  go_enter Tryd.func41, Tryd.ntmps41
  go_wp2_with fail
  obtain ⟨W, hW, z0, z1, BW, sW⟩ := frame2 w 41 41 neg A n c e false none 0 0 0
  rw [hW]
  clear hW
  refine (rmay_any true (h.on BW) (by omega) HM.out).mono ?_
  rintro en w1 ⟨rfl, b⟩
  replace z0 := z0.on b
  replace z1 := z1.on b
  replace BW := Below.step BW b
  clear b
  obtain ⟨q0, q1, q2, i0, i1, i2, hl2⟩ := z0.cells
  go_wp2_with fail
  refine (rright_bl (h.on BW) (by omega) (at_ - e) bl HBL).mono ?_
  rintro en w' ⟨X, l, k, rfl, rr, rfl⟩
  have hl := rr.le (k := 100000) (Nat.le_trans (blen_le_of (Nat.div_le_self _ _)) (by rw [← h.size]; omega))
  go_wp2_with fail
  refine (rplain_any rr (by omega) (by omega) (by omega) HD.out).mono ?_
  rintro en w2 ⟨V, v, d, rfl, rv, b⟩
  replace z1 := z1.on b
  replace BW := Below.step BW b
  clear b q0 q1 q2 i0 i1 i2
  obtain ⟨p0, p1, p2, g0, g1, g2, hl3⟩ := z1.cells
  go_wp2_with fail
  refine bodyPost_ret (v := .tuple #[.agg #[.bool rn, .slice V v d, .int .i64 re], .bool bl, .int .i64 0]) (by simp [results, Tryd.results41, go_sem, p0, p1, p2]) rfl ?_
  exact ⟨V, v, d, rfl, z1.br tR rv _ _ _, below_put3 BW (by omega) _ _ _⟩

theorem rFloor_as {A : Option Addr} {n c x : Nat} {neg : Bool} {e at_ : Int} {w : World} {rn : Bool} {rx : Nat} {re : Int} {bl : Bool} {err : Int} (h : BR w A n c x) (hn : n ≤ 100000) (hr : floorS ⟨neg, x, e⟩ at_ = (⟨rn, rx, re⟩, bl, err)) :
    Calls Tryd.prog 41 #[.agg #[.bool neg, .slice A n c, .int .i64 e], .int .i64 at_] w (FlR w rn rx re bl err) := by
  obtain ⟨m, hm⟩ : ∃ b, D.may ⟨neg, x, e⟩ = b := ⟨_, rfl⟩
  cases m
  · exact rfloor_err h hn hm hr
  · by_cases t1 : -8192 ≤ at_
    · by_cases t2 : at_ ≤ 8192
      · by_cases hge : at_ ≤ e
        · exact rfloor_ge h hn hm t1 t2 hge hr
        · exact rfloor_lt h hn hm t1 t2 (by omega) hr
      · exact rfloor_arg h hn hm (.inr ⟨t1, by omega⟩) hr
    · exact rfloor_arg h hn hm (.inl (by omega)) hr

theorem floorS_blen {a : D} {at_ : Int} : blen (floorS a at_).1.x ≤ blen a.x := by
  unfold floorS
  split
  · split
    · split
      · exact pl_blen a
      · exact Nat.le_trans (pl_blen _) (blen_le_of (Nat.div_le_self _ _))
    · exact Nat.zero_le _
  · exact Nat.zero_le _

end Go.Proofs.YtkjbejdeejpdoaaDoor
