
/-
  The walk of the reference of layer 4: Neighbours.
-/
import Derived.Test.YtkjbejdeejpdoaaDoorRra
import Derived.Test.YtkjbejdeejpdoaaDoorRfl
import Derived.Deep.DeepCutAuto
namespace Go.Proofs.YtkjbejdeejpdoaaDoor
open Go.RowKit
set_option linter.unusedVariables false

theorem nframe (w : World) (t tr : TypeId) (a b c : Int) (n : Bool) (A : Option Addr) (l k : Nat) (e : Int) : ∃ W, (((w.alloc (.cells #[.int .i64 a, .int .i64 b, .int .i64 c] t)).alloc (dob n A l k e tr)).alloc (dob false none 0 0 0 tr)).alloc (dob false none 0 0 0 tr) = W ∧
    FB W w.heap.size t a b c ∧ DB W (w.heap.size + 1) tr n A l k e ∧ DB W (w.heap.size + 1 + 1) tr false none 0 0 0 ∧ DB W (w.heap.size + 1 + 1 + 1) tr false none 0 0 0 ∧ Below w.heap.size w W ∧ W.heap.size = w.heap.size + 4 :=
  ⟨_, rfl, (((Box.made w t (notU_int _) (notU_int _) (notU_int _)).alloc _).alloc _).alloc _, ((DB.made _ (by simp) tr n A l k e).alloc _).alloc _, (DB.made _ (by simp) tr false none 0 0 0).alloc _, DB.made _ (by simp) tr false none 0 0 0,
    ((((Below.refl _ _).alloc (by simp <;> omega) _).alloc (by simp <;> omega) _).alloc (by simp <;> omega) _).alloc (by simp <;> omega) _, by simp⟩
/-- two numbers of sign 0 are told. -/
def NBx (w : World) (lx : Nat) (le : Int) (hx : Nat) (he : Int) (en : Ending) (w' : World) : Prop := ∃ A n c A' n' c', en = .returned (.tuple #[.agg #[.bool false, .slice A n c, .int .i64 le], .agg #[.bool false, .slice A' n' c', .int .i64 he]]) ∧ BR w' A n c lx ∧ BR w' A' n' c' hx ∧ Below w.heap.size w w'
def CutNb (w0 : World) (rx : Nat) (re err : Int) (s7 s8 : Value) (wx : World) : Prop :=
  ∃ g A n c, s7 = .pointer (some ⟨g, 0, none⟩) ∧ s8 = .int .i64 err ∧ DB wx g 41 false A n c re ∧ BR wx A n c rx ∧ w0.heap.size ≤ g ∧ Below w0.heap.size w0 wx
theorem DB.made_drew' (w : World) {s : Nat} (hs : w.heap.size = s) (t : TypeId) (neg : Bool) (A : Option Addr) (n c : Nat) (e : Int) : DB (w.alloc (dob neg A n c e t)).drew s t neg A n c e := (DB.made w hs t neg A n c e).on ((Below.refl _ _).drew)
theorem below_more' {w0 w : World} (h : Below w0.heap.size w0 w) (o : Obj) : Below w0.heap.size w0 (w.alloc o) := h.alloc h.size o
theorem tRD : (41 : TypeId) ≠ 4 := by decide
set_option maxHeartbeats 2000000 in
theorem rnb_exact {B P W M E H : Nat} {low : Int} (hf : Fm B P W M E H low) {A : Option Addr} {n c x : Nat} {neg : Bool} {e : Int} {w : World} (h : BR w A n c x) (hn : n ≤ 100000) (hm : mayR ⟨neg, x, e⟩ = true) (h0 : x ≠ 0) {p : Int} (hp : plcS P low ⟨neg, x, e⟩ = p) (he1 : -1000000 ≤ e) (he2 : e ≤ 1000000) {dn : Bool} {dx : Nat} {de : Int} (hd : D.pl ⟨neg, x, e⟩ = ⟨dn, dx, de⟩) (hdl : blen dx ≤ 100000) {lx : Nat} {le : Int} (hfl : floorS ⟨false, dx, de⟩ p = (⟨false, lx, le⟩, false, 0)) (hll : blen lx ≤ 100000) :
    Calls Tryd.prog 15 #[.agg #[.int .i64 (B : Int), .int .i64 (P : Int), .int .i64 (W : Int)], .agg #[.bool neg, .slice A n c, .int .i64 e]] w (NBx w lx le lx le) := by
  have d0 : ((n : Int) == 0) = false := by
    have := (blen_pos h0).2
    have := h.size
    simp
    omega
  have HMR := Lib.hid hm
  have HP := Lib.hid hp
  have HD := Lib.hid hd
  have HF := Lib.hid hfl
  clear hm hp hd hfl
  go_enter Tryd.func15, Tryd.ntmps15
  go_wp2_with fail
  obtain ⟨V, hV, z0, z1, z2, z3, BW, sW⟩ := nframe w 32 41 (B : Int) (P : Int) (W : Int) neg A n c e
  rw [hV]
  clear hV sW
  replace h := h.on BW
  refine (rplace_as hf h hn HMR.out h0 HP.out).mono ?_
  rintro en w1 ⟨rfl, b⟩
  replace z0 := z0.on b
  replace z1 := z1.on b
  replace z2 := z2.on b
  replace z3 := z3.on b
  replace h := h.on b
  replace BW := Below.step BW b
  clear b
  obtain ⟨z0c0, z0c1, z0c2, z0f0, z0f1, z0f2, z0l⟩ := z0.cells
  obtain ⟨z1c0, z1c1, z1c2, z1f0, z1f1, z1f2, z1l⟩ := z1.cells
  go_wp2_with fail
  refine (rplain_any h (by omega) (by omega) (by omega) HD.out).mono ?_
  rintro en w2 ⟨V_rd, v_rd, c_rd, rfl, rd, b⟩
  clear z0c0 z0c1 z0c2 z0f0 z0f1 z0f2 z0l z1c0 z1c1 z1c2 z1f0 z1f1 z1f2 z1l
  replace z0 := z0.on b
  replace z1 := z1.on b
  replace z2 := z2.on b
  replace z3 := z3.on b
  replace h := h.on b
  replace BW := Below.step BW b
  clear b
  have ld := rd.le (k := 100000) hdl
  obtain ⟨z0c0, z0c1, z0c2, z0f0, z0f1, z0f2, z0l⟩ := z0.cells
  obtain ⟨z1c0, z1c1, z1c2, z1f0, z1f1, z1f2, z1l⟩ := z1.cells
  go_wp2_with fail
  refine (rsize_as _).mono ?_
  rintro en w3 ⟨rfl, b⟩
  clear z0c0 z0c1 z0c2 z0f0 z0f1 z0f2 z0l z1c0 z1c1 z1c2 z1f0 z1f1 z1f2 z1l
  replace z0 := z0.on b
  replace z1 := z1.on b
  replace z2 := z2.on b
  replace z3 := z3.on b
  replace h := h.on b
  replace rd := rd.on b
  replace BW := Below.step BW b
  clear b
  obtain ⟨z0c0, z0c1, z0c2, z0f0, z0f1, z0f2, z0l⟩ := z0.cells
  obtain ⟨z1c0, z1c1, z1c2, z1f0, z1f1, z1f2, z1l⟩ := z1.cells
  go_wp2_with fail
  refine (rFloor_as rd (by omega) HF.out).mono ?_
  rintro en w4 ⟨V_rl, v_rl, c_rl, rfl, rl, b⟩
  clear z0c0 z0c1 z0c2 z0f0 z0f1 z0f2 z0l z1c0 z1c1 z1c2 z1f0 z1f1 z1f2 z1l
  replace z0 := z0.on b
  replace z1 := z1.on b
  replace z2 := z2.on b
  replace z3 := z3.on b
  replace h := h.on b
  replace rd := rd.on b
  replace BW := Below.step BW b
  clear b
  have ll := rl.le (k := 100000) hll
  obtain ⟨z0c0, z0c1, z0c2, z0f0, z0f1, z0f2, z0l⟩ := z0.cells
  obtain ⟨z1c0, z1c1, z1c2, z1f0, z1f1, z1f2, z1l⟩ := z1.cells
  go_wp2_with fail
  clear z0c0 z0c1 z0c2 z0f0 z0f1 z0f2 z0l z1c0 z1c1 z1c2 z1f0 z1f1 z1f2 z1l
  obtain ⟨w5, e_w5⟩ : ∃ w', w4.alloc (dob false V_rl v_rl c_rl le 41) = w' := ⟨_, rfl⟩
  have b : Below w4.heap.size w4 w5 := e_w5 ▸ below_lit _ _
  have hs_w5 : w5.heap.size = w4.heap.size + 1 := e_w5 ▸ size_lit w4 _ rfl
  have zl : DB w5 w4.heap.size 41 false V_rl v_rl c_rl le := e_w5 ▸ DB.made w4 rfl 41 false V_rl v_rl c_rl le
  rw [e_w5]
  clear e_w5
  replace z0 := z0.on b
  replace z1 := z1.on b
  replace z2 := z2.on b
  replace z3 := z3.on b
  replace h := h.on b
  replace rd := rd.on b
  replace rl := rl.on b
  replace BW := Below.step BW b
  clear b
  obtain ⟨z2c0, z2c1, z2c2, z2f0, z2f1, z2f2, z2l⟩ := z2.cells
  obtain ⟨z3c0, z3c1, z3c2, z3f0, z3f1, z3f2, z3l⟩ := z3.cells
  obtain ⟨zlc0, zlc1, zlc2, zlf0, zlf1, zlf2, zll⟩ := zl.cells
  go_region
  clear z2c0 z2c1 z2c2 z2f0 z2f1 z2f2 z2l z3c0 z3c1 z3c2 z3f0 z3f1 z3f2 z3l zlc0 zlc1 zlc2 zlf0 zlf1 zlf2 zll
  have y2 := ((z2.put_d false V_rl v_rl c_rl le).other (s := w.heap.size + 1 + 1 + 1) (by omega) (.bool false) (.slice V_rl v_rl c_rl) (.int .i64 le)).on ((Below.refl _ _).drew)
  have y3 := ((z3.other (s := w.heap.size + 1 + 1) (by omega) (.bool false) (.slice V_rl v_rl c_rl) (.int .i64 le)).put_d false V_rl v_rl c_rl le).on ((Below.refl _ _).drew)
  have yl := ((z3.other (s := w.heap.size + 1 + 1) (by omega) (.bool false) (.slice V_rl v_rl c_rl) (.int .i64 le)).br tRD (z2.br tRD rl (.bool false) (.slice V_rl v_rl c_rl) (.int .i64 le)) (.bool false) (.slice V_rl v_rl c_rl) (.int .i64 le)).on ((Below.refl _ _).drew)
  have yh := ((z3.other (s := w.heap.size + 1 + 1) (by omega) (.bool false) (.slice V_rl v_rl c_rl) (.int .i64 le)).br tRD (z2.br tRD rl (.bool false) (.slice V_rl v_rl c_rl) (.int .i64 le)) (.bool false) (.slice V_rl v_rl c_rl) (.int .i64 le)).on ((Below.refl _ _).drew)
  have yb := (below_put3 (below_put3 BW (show w.heap.size ≤ w.heap.size + 1 + 1 by omega) (.bool false) (.slice V_rl v_rl c_rl) (.int .i64 le)) (show w.heap.size ≤ w.heap.size + 1 + 1 + 1 by omega) (.bool false) (.slice V_rl v_rl c_rl) (.int .i64 le)).drew
  obtain ⟨wq, eq_⟩ : ∃ w', (put3 (put3 w5 (w.heap.size + 1 + 1) (.bool false) (.slice V_rl v_rl c_rl) (.int .i64 le)) (w.heap.size + 1 + 1 + 1) (.bool false) (.slice V_rl v_rl c_rl) (.int .i64 le)).drew = w' := ⟨_, rfl⟩
  rw [eq_] at y2 y3 yl yh yb ⊢
  clear eq_
  obtain ⟨p0, p1, p2, _⟩ := y2.cells
  obtain ⟨r0, r1, r2, _⟩ := y3.cells
  go_wp2_with fail
  refine bodyPost_ret (v := .tuple #[.agg #[.bool false, .slice V_rl v_rl c_rl, .int .i64 le], .agg #[.bool false, .slice V_rl v_rl c_rl, .int .i64 le]]) (by simp [results, Tryd.results15, go_sem, p0, p1, p2, r0, r1, r2]) rfl ?_
  exact ⟨_, _, _, _, _, _, rfl, yl, yh, yb⟩
set_option maxHeartbeats 4000000 in
set_option maxRecDepth 100000 in
theorem rnb_lost {B P W M E H : Nat} {low : Int} (hf : Fm B P W M E H low) {A : Option Addr} {n c x : Nat} {neg : Bool} {e : Int} {w : World} (h : BR w A n c x) (hn : n ≤ 100000) (hm : mayR ⟨neg, x, e⟩ = true) (h0 : x ≠ 0) {p : Int} (hp : plcS P low ⟨neg, x, e⟩ = p) (he1 : -1000000 ≤ e) (he2 : e ≤ 1000000) {dn : Bool} {dx : Nat} {de : Int} (hd : D.pl ⟨neg, x, e⟩ = ⟨dn, dx, de⟩) (hdl : blen dx ≤ 100000) {lx : Nat} {le : Int} {hx : Nat} {he : Int} (hfl : floorS ⟨false, dx, de⟩ p = (⟨false, lx, le⟩, true, 0)) (hll : blen lx ≤ 100000) (hadd : addS ⟨false, lx, le⟩ ⟨false, 1, p⟩ = (⟨false, hx, he⟩, 0)) :
    Calls Tryd.prog 15 #[.agg #[.int .i64 (B : Int), .int .i64 (P : Int), .int .i64 (W : Int)], .agg #[.bool neg, .slice A n c, .int .i64 e]] w (NBx w lx le hx he) := by
  have d0 : ((n : Int) == 0) = false := by
    have := (blen_pos h0).2
    have := h.size
    simp
    omega
  have HMR := Lib.hid hm
  have HP := Lib.hid hp
  have HD := Lib.hid hd
  have HF := Lib.hid hfl
  have HA := Lib.hid hadd
  clear hm hp hd hfl hadd
  go_enter Tryd.func15, Tryd.ntmps15
  go_wp2_with fail
  obtain ⟨V, hV, z0, z1, z2, z3, BW, sW⟩ := nframe w 32 41 (B : Int) (P : Int) (W : Int) neg A n c e
  rw [hV]
  clear hV sW
  replace h := h.on BW
  refine (rplace_as hf h hn HMR.out h0 HP.out).mono ?_
  rintro en w1 ⟨rfl, b⟩
  replace z0 := z0.on b
  replace z1 := z1.on b
  replace z2 := z2.on b
  replace z3 := z3.on b
  replace h := h.on b
  replace BW := Below.step BW b
  clear b
  obtain ⟨z0c0, z0c1, z0c2, z0f0, z0f1, z0f2, z0l⟩ := z0.cells
  obtain ⟨z1c0, z1c1, z1c2, z1f0, z1f1, z1f2, z1l⟩ := z1.cells
  go_wp2_with fail
  refine (rplain_any h (by omega) (by omega) (by omega) HD.out).mono ?_
  rintro en w2 ⟨V_rd, v_rd, c_rd, rfl, rd, b⟩
  clear z0c0 z0c1 z0c2 z0f0 z0f1 z0f2 z0l z1c0 z1c1 z1c2 z1f0 z1f1 z1f2 z1l
  replace z0 := z0.on b
  replace z1 := z1.on b
  replace z2 := z2.on b
  replace z3 := z3.on b
  replace h := h.on b
  replace BW := Below.step BW b
  clear b
  have ld := rd.le (k := 100000) hdl
  obtain ⟨z0c0, z0c1, z0c2, z0f0, z0f1, z0f2, z0l⟩ := z0.cells
  obtain ⟨z1c0, z1c1, z1c2, z1f0, z1f1, z1f2, z1l⟩ := z1.cells
  go_wp2_with fail
  refine (rsize_as _).mono ?_
  rintro en w3 ⟨rfl, b⟩
  clear z0c0 z0c1 z0c2 z0f0 z0f1 z0f2 z0l z1c0 z1c1 z1c2 z1f0 z1f1 z1f2 z1l
  replace z0 := z0.on b
  replace z1 := z1.on b
  replace z2 := z2.on b
  replace z3 := z3.on b
  replace h := h.on b
  replace rd := rd.on b
  replace BW := Below.step BW b
  clear b
  obtain ⟨z0c0, z0c1, z0c2, z0f0, z0f1, z0f2, z0l⟩ := z0.cells
  obtain ⟨z1c0, z1c1, z1c2, z1f0, z1f1, z1f2, z1l⟩ := z1.cells
  go_wp2_with fail
  refine (rFloor_as rd (by omega) HF.out).mono ?_
  rintro en w4 ⟨V_rl, v_rl, c_rl, rfl, rl, b⟩
  clear z0c0 z0c1 z0c2 z0f0 z0f1 z0f2 z0l z1c0 z1c1 z1c2 z1f0 z1f1 z1f2 z1l
  replace z0 := z0.on b
  replace z1 := z1.on b
  replace z2 := z2.on b
  replace z3 := z3.on b
  replace h := h.on b
  replace rd := rd.on b
  replace BW := Below.step BW b
  clear b
  have ll := rl.le (k := 100000) hll
  obtain ⟨z0c0, z0c1, z0c2, z0f0, z0f1, z0f2, z0l⟩ := z0.cells
  obtain ⟨z1c0, z1c1, z1c2, z1f0, z1f1, z1f2, z1l⟩ := z1.cells
  go_wp2_with fail
  clear z0c0 z0c1 z0c2 z0f0 z0f1 z0f2 z0l z1c0 z1c1 z1c2 z1f0 z1f1 z1f2 z1l
  obtain ⟨w5, e_w5⟩ : ∃ w', w4.alloc (dob false V_rl v_rl c_rl le 41) = w' := ⟨_, rfl⟩
  have b : Below w4.heap.size w4 w5 := e_w5 ▸ below_lit _ _
  have hs_w5 : w5.heap.size = w4.heap.size + 1 := e_w5 ▸ size_lit w4 _ rfl
  have zl : DB w5 w4.heap.size 41 false V_rl v_rl c_rl le := e_w5 ▸ DB.made w4 rfl 41 false V_rl v_rl c_rl le
  rw [e_w5]
  clear e_w5
  replace z0 := z0.on b
  replace z1 := z1.on b
  replace z2 := z2.on b
  replace z3 := z3.on b
  replace h := h.on b
  replace rd := rd.on b
  replace rl := rl.on b
  replace BW := Below.step BW b
  clear b
  clear hs_w5
  go_cut [10, 11] (CutNb w5 hx he 0)
  case first =>
    have HS : Hid (∀ w', Below w5.heap.size w5 w' → w'.cell? ⟨w4.heap.size, 0, none⟩ = some (.bool false) ∧ w'.cell? ⟨w4.heap.size, 1, none⟩ = some (.slice V_rl v_rl c_rl) ∧ w'.cell? ⟨w4.heap.size, 2, none⟩ = some (.int .i64 le)) := fun w' hb => by
      obtain ⟨p0, p1, p2, _⟩ := (zl.on hb).cells
      exact ⟨p0, p1, p2⟩
    have kk : Below w5.heap.size w5 w5.drew := (Below.refl _ _).drew
    have kd : Below w5.heap.size w5 (w5.alloc (dob false none 0 0 0 41)).drew := (below_more' (Below.refl _ _) _).drew
    have RL := Lib.hid rl
    clear z0 z1 z2 z3 h rd rl zl
    go_region_held3 (fun w' => w'.cell? ⟨w4.heap.size, 0, none⟩ = some (.bool false) ∧ w'.cell? ⟨w4.heap.size, 1, none⟩ = some (.slice V_rl v_rl c_rl) ∧ w'.cell? ⟨w4.heap.size, 2, none⟩ = some (.int .i64 le))
      ((refine HS.out _ ?_; first | (with_reducible assumption) | (with_reducible exact below_more' (by assumption) _) | ((with_reducible refine below_put3 ?_ ?_ _ _ _) <;> first | (with_reducible assumption) | omega)))
      (first
      | (go_at_call 44
         refine (rword_one _).mono ?_
         rintro e v6 ⟨B1, m1, d1, rfl, r1, b6⟩
         have kk := Below.step (show Below w5.heap.size w5 _ from (by first | (with_reducible assumption) | (with_reducible exact below_more' (by assumption) _))) b6
         have hz6 := kk.size
         have r1 := Lib.hid r1
         have b6 := Lib.hid b6)
      | (go_at_call 43
         refine (rAdd_as (RL.out.on (by first | (with_reducible assumption) | (with_reducible exact below_more' (by assumption) _))) (r1.out.on (by first | (with_reducible exact Below.refl _ _) | (with_reducible exact below_lit _ _))) ll (by rw [r1.out.size]; decide) HA).mono ?_
         rintro e v8 ⟨B3, m3, d3, rfl, r3, b8⟩
         have kk := Below.step (show Below w5.heap.size w5 _ from (by first | (with_reducible assumption) | (with_reducible exact below_more' (by assumption) _))) b8
         have hz8 := kk.size
         have r3 := Lib.hid r3
         first | (have zz := ((DB.made_drew' w5 rfl 41 false none 0 0 0).on b6.out).on b8; obtain ⟨p0, p1, p2, g0, g1, g2, _⟩ := zz.cells; have zz := Lib.hid zz) | (have zz := (DB.made v6 rfl 41 false none 0 0 0).on b8; obtain ⟨p0, p1, p2, g0, g1, g2, _⟩ := zz.cells; have zz := Lib.hid zz) | skip
         clear b8))
    all_goals go_wp2_with fail
    all_goals go_meet
    all_goals (first | (exact ⟨_, B3, m3, d3, rfl, rfl, zz.out.put_d false B3 m3 d3 he, zz.out.br tRD r3.out _ _ _, (by first | exact Nat.le_refl _ | omega), below_put3 kk (by omega) _ _ _⟩) | (exact ⟨_, B3, m3, d3, rfl, rfl, DB.made v8 rfl 41 false B3 m3 d3 he, r3.out.on (below_lit _ _), (by omega), below_more' kk _⟩))
  case rest =>
    obtain ⟨gzh, Azh, nzh, czh, rfl, rfl, zh, rh, hg, b⟩ := hcut
    have hlt := z3.cells.2.2.2.2.2.2
    have hne : gzh ≠ w.heap.size + 1 + 1 := by omega
    have hne' : w.heap.size + 1 + 1 ≠ gzh := by omega
    have hne2 : gzh ≠ w.heap.size + 1 + 1 + 1 := by omega
    have hne3 : w.heap.size + 1 + 1 + 1 ≠ gzh := by omega
    clear hlt hg
    obtain ⟨w6, rfl⟩ : ∃ w6 : World, w6 = wc := ⟨_, rfl⟩
    replace z0 := z0.on b
    replace z1 := z1.on b
    replace z2 := z2.on b
    replace z3 := z3.on b
    replace h := h.on b
    replace rd := rd.on b
    replace rl := rl.on b
    replace zl := zl.on b
    replace BW := Below.step BW b
    clear b
    obtain ⟨z2c0, z2c1, z2c2, z2f0, z2f1, z2f2, z2l⟩ := z2.cells
    obtain ⟨z3c0, z3c1, z3c2, z3f0, z3f1, z3f2, z3l⟩ := z3.cells
    obtain ⟨zlc0, zlc1, zlc2, zlf0, zlf1, zlf2, zll⟩ := zl.cells
    obtain ⟨zhc0, zhc1, zhc2, zhf0, zhf1, zhf2, zhl⟩ := zh.cells
    go_wp2_with fail
    go_region
    clear z2c0 z2c1 z2c2 z2f0 z2f1 z2f2 z2l z3c0 z3c1 z3c2 z3f0 z3f1 z3f2 z3l zlc0 zlc1 zlc2 zlf0 zlf1 zlf2 zll zhc0 zhc1 zhc2 zhf0 zhf1 zhf2 zhl
    have y2 := ((z2.put_d false V_rl v_rl c_rl le).other (s := w.heap.size + 1 + 1 + 1) (by omega) (.bool false) (.slice Azh nzh czh) (.int .i64 he)).on ((Below.refl _ _).drew)
    have y3 := ((z3.other (s := w.heap.size + 1 + 1) (by omega) (.bool false) (.slice V_rl v_rl c_rl) (.int .i64 le)).put_d false Azh nzh czh he).on ((Below.refl _ _).drew)
    have yl := ((z3.other (s := w.heap.size + 1 + 1) (by omega) (.bool false) (.slice V_rl v_rl c_rl) (.int .i64 le)).br tRD (z2.br tRD rl (.bool false) (.slice V_rl v_rl c_rl) (.int .i64 le)) (.bool false) (.slice Azh nzh czh) (.int .i64 he)).on ((Below.refl _ _).drew)
    have yh := ((z3.other (s := w.heap.size + 1 + 1) (by omega) (.bool false) (.slice V_rl v_rl c_rl) (.int .i64 le)).br tRD (z2.br tRD rh (.bool false) (.slice V_rl v_rl c_rl) (.int .i64 le)) (.bool false) (.slice Azh nzh czh) (.int .i64 he)).on ((Below.refl _ _).drew)
    have yb := (below_put3 (below_put3 BW (show w.heap.size ≤ w.heap.size + 1 + 1 by omega) (.bool false) (.slice V_rl v_rl c_rl) (.int .i64 le)) (show w.heap.size ≤ w.heap.size + 1 + 1 + 1 by omega) (.bool false) (.slice Azh nzh czh) (.int .i64 he)).drew
    obtain ⟨wq, eq_⟩ : ∃ w', (put3 (put3 w6 (w.heap.size + 1 + 1) (.bool false) (.slice V_rl v_rl c_rl) (.int .i64 le)) (w.heap.size + 1 + 1 + 1) (.bool false) (.slice Azh nzh czh) (.int .i64 he)).drew = w' := ⟨_, rfl⟩
    rw [eq_] at y2 y3 yl yh yb ⊢
    clear eq_
    obtain ⟨p0, p1, p2, _⟩ := y2.cells
    obtain ⟨r0, r1, r2, _⟩ := y3.cells
    go_wp2_with fail
    refine bodyPost_ret (v := .tuple #[.agg #[.bool false, .slice V_rl v_rl c_rl, .int .i64 le], .agg #[.bool false, .slice Azh nzh czh, .int .i64 he]]) (by simp [results, Tryd.results15, go_sem, p0, p1, p2, r0, r1, r2]) rfl ?_
    exact ⟨_, _, _, _, _, _, rfl, yl, yh, yb⟩
set_option maxHeartbeats 1000000 in
theorem rnb_zero {B P W M E H : Nat} {low : Int} (hf : Fm B P W M E H low) {A : Option Addr} {n c x : Nat} {neg : Bool} {e : Int} {w : World} (h : BR w A n c x) (hn : n ≤ 100000) (h0 : x = 0) :
    Calls Tryd.prog 15 #[.agg #[.int .i64 (B : Int), .int .i64 (P : Int), .int .i64 (W : Int)], .agg #[.bool neg, .slice A n c, .int .i64 e]] w (NBx w 0 0 0 0) := by
  obtain rfl : n = 0 := by rw [h.size, h0, blen_zero]
  clear h0 hn hf
  go_enter Tryd.func15, Tryd.ntmps15
  go_wp2_with fail
  refine bodyPost_ret (v := .tuple #[.agg #[.bool false, .slice none 0 0, .int .i64 0], .agg #[.bool false, .slice none 0 0, .int .i64 0]]) (by simp [results, Tryd.results15, go_sem]) rfl ?_
  exact ⟨_, _, _, _, _, _, rfl, BR.none_ _, BR.none_ _, ((((Below.refl _ _).alloc (by simp <;> omega) _).alloc (by simp <;> omega) _).alloc (by simp <;> omega) _).alloc (by simp <;> omega) _⟩
/-- THE NEIGHBOURS of a size. -/
theorem rnb_as {B P W M E H : Nat} {low : Int} (hf : Fm B P W M E H low) {A : Option Addr} {n c x : Nat} {neg : Bool} {e : Int} {w : World} (h : BR w A n c x) (hn : n ≤ 100000) (hm : mayR ⟨neg, x, e⟩ = true) (h0 : x ≠ 0) {p : Int} (hp : plcS P low ⟨neg, x, e⟩ = p) {lx hx : Nat} {le he : Int}
    (hlow : D.pl ⟨false, (⟨neg, x, e⟩ : D).vl.natAbs / 2 ^ (p + 40000).toNat, p⟩ = ⟨false, lx, le⟩)
    (hhigh : D.pl ⟨false, (⟨neg, x, e⟩ : D).vl.natAbs / 2 ^ (p + 40000).toNat + (if (⟨neg, x, e⟩ : D).vl.natAbs % 2 ^ (p + 40000).toNat = 0 then 0 else 1), p⟩ = ⟨false, hx, he⟩) :
    Calls Tryd.prog 15 #[.agg #[.int .i64 (B : Int), .int .i64 (P : Int), .int .i64 (W : Int)], .agg #[.bool neg, .slice A n c, .int .i64 e]] w (NBx w lx le hx he) := by
  obtain ⟨b1, b2, b3, b4, b5, b6, b7, b8, b9, b10, b11, b12, b13, b14, b15⟩ := hf.bd
  obtain ⟨k1, k2, k3, k4⟩ := mayR_bd hm h0
  obtain ⟨p1, p2⟩ := plc_bd hf hm h0
  have k5 := ((D.may_iff _).1 k1).2.2
  have hplc := plc_cell (P := P) (low := low) (a := ⟨neg, x, e⟩) h0 (by omega)
  rw [hp] at p1 p2 hplc
  have hq := (flq hf (⟨neg, x, e⟩ : D).vl.natAbs).1
  rw [← hplc] at hq
  obtain ⟨dn, dx, de, hd⟩ : ∃ dn dx de, D.pl ⟨neg, x, e⟩ = ⟨dn, dx, de⟩ := ⟨_, _, _, rfl⟩
  have hdl : blen dx ≤ 100000 := by
    rw [hd] at k2
    have := ((D.may_iff _).1 k2).1
    simp only at this
    omega
  have hfl := size_floor (a := ⟨neg, x, e⟩) k2 (by omega) (p := p) ((plB_iff p).2 ⟨by omega, by omega⟩)
  rw [hd] at hfl
  simp only at hfl
  rw [hlow] at hfl
  obtain ⟨m1, m2, m3, m4, m5, m6, m7⟩ := nb_may (n := (⟨neg, x, e⟩ : D).vl.natAbs / 2 ^ (p + 40000).toNat) (p := p) (by omega) (by omega) (by omega)
  rw [hlow] at m5
  simp only at m5 k3 k4 k5
  by_cases hr : (⟨neg, x, e⟩ : D).vl.natAbs % 2 ^ (p + 40000).toNat = 0
  · rw [if_pos hr, Nat.add_zero, hlow] at hhigh
    simp only [D.mk.injEq, true_and] at hhigh
    obtain ⟨rfl, rfl⟩ := hhigh
    rw [decide_eq_false (by simpa using hr)] at hfl
    exact rnb_exact hf h hn hm h0 hp (by omega) (by omega) hd hdl hfl (by omega)
  · rw [if_neg hr] at hhigh
    rw [decide_eq_true hr] at hfl
    have hadd := nb_next (n := (⟨neg, x, e⟩ : D).vl.natAbs / 2 ^ (p + 40000).toNat) (p := p) (by omega) (by omega) (by omega)
    rw [hlow, hhigh] at hadd
    exact rnb_lost hf h hn hm h0 hp (by omega) (by omega) hd hdl hfl (by omega) hadd
end Go.Proofs.YtkjbejdeejpdoaaDoor
