
/-
  The walk of round's rounded.
-/
import Derived.Test.YtkjbejdeejpdoaaDoorKd
namespace Go.Proofs.YtkjbejdeejpdoaaDoor
open Go.RowKit
set_option linter.unusedVariables false

theorem nrframe (w : World) (t1 t2 : TypeId) (n : Bool) (A : Option Addr) (l k : Nat) (e t : Int) (z : Bool) : ∃ W, (w.alloc (nob n A l k e t z t1)).alloc (dob false none 0 0 0 t2) = W ∧ NB W w.heap.size t1 n A l k e t z ∧ DB W (w.heap.size + 1) t2 false none 0 0 0 ∧ Below w.heap.size w W ∧ W.heap.size = w.heap.size + 2 :=
  ⟨_, rfl, (NB.made w rfl t1 n A l k e t z).alloc _, DB.made _ (by simp) t2 false none 0 0 0, ((Below.refl _ _).alloc (by simp <;> omega) _).alloc (by simp <;> omega) _, by simp⟩
/-- what rounded tells. -/
def RoX (w : World) (rn : Bool) (rx : Nat) (re : Int) (lost : Bool) (en : Ending) (w' : World) : Prop :=
  ∃ A k, en = .returned (.tuple #[.agg #[.bool rn, .slice A k k, .int .i64 re], .bool lost]) ∧ Res w' A k rx ∧ Below w.heap.size w w'
theorem rounded_same {dn nz : Bool} {A : Option Addr} {n c : Nat} {de t : Int} {x : Nat} {w : World} (h : Arg w A n c x) (hs : n ≤ 30000) (hT : Tab w) (mode : Int) {p : Int} {ln : Bool} {lx : Nat} {le : Int} (hf : floorS ⟨dn, x, de⟩ p = (⟨ln, lx, le⟩, false, 0)) (hlx : blen lx ≤ 4096) :
    Calls Tryd.prog 53 #[.agg #[.bool dn, .slice A n c, .int .i64 de, .int .i64 t, .bool nz], .int .i64 mode, .int .i64 p] w (RoX w ln lx le false) := by
  have HF := Lib.hid hf
  clear hf
  go_enter Tryd.func53, Tryd.ntmps53
  go_wp2_with fail
  obtain ⟨V, hV, z0, z1, BW, sW⟩ := nrframe w 73 25 dn A n c de t nz
  rw [hV]
  clear hV sW
  replace hT := hT.on BW
  replace h := h.on BW
  obtain ⟨z0c0, z0c1, z0c2, z0c3, z0c4, z0f0, z0f1, z0f2, z0f3, z0f4, z0l⟩ := z0.cells
  obtain ⟨z1c0, z1c1, z1c2, z1f0, z1f1, z1f2, z1l⟩ := z1.cells
  go_wp2_with fail
  refine (dfloor_as h hs hT HF.out).mono ?_
  rintro en w1 ⟨V_rl, v_rl, rfl, rl, b⟩
  clear z0c0 z0c1 z0c2 z0c3 z0c4 z0f0 z0f1 z0f2 z0f3 z0f4 z0l z1c0 z1c1 z1c2 z1f0 z1f1 z1f2 z1l
  replace z0 := z0.on b
  replace z1 := z1.on b
  replace hT := hT.on b
  replace h := h.on b
  replace BW := Below.step BW b
  clear b
  have ll := res_n_le rl (k := 128) (by omega)
  obtain ⟨z0c0, z0c1, z0c2, z0c3, z0c4, z0f0, z0f1, z0f2, z0f3, z0f4, z0l⟩ := z0.cells
  obtain ⟨z1c0, z1c1, z1c2, z1f0, z1f1, z1f2, z1l⟩ := z1.cells
  go_upto_region 2 with fail
  clear z0c0 z0c1 z0c2 z0c3 z0c4 z0f0 z0f1 z0f2 z0f3 z0f4 z0l z1c0 z1c1 z1c2 z1f0 z1f1 z1f2 z1l
  obtain ⟨w2, e_w2⟩ : ∃ w', w1.alloc (dob ln V_rl v_rl v_rl le 25) = w' := ⟨_, rfl⟩
  have b : Below w1.heap.size w1 w2 := e_w2 ▸ below_lit _ _
  have hs_w2 : w2.heap.size = w1.heap.size + 1 := e_w2 ▸ size_lit w1 _ rfl
  have zl : DB w2 w1.heap.size 25 ln V_rl v_rl v_rl le := e_w2 ▸ DB.made w1 rfl 25 ln V_rl v_rl v_rl le
  rw [e_w2]
  clear e_w2
  replace z0 := z0.on b
  replace z1 := z1.on b
  replace hT := hT.on b
  replace h := h.on b
  replace rl := rl.on b
  replace BW := Below.step BW b
  clear b
  clear hs_w2
  obtain ⟨z0c0, z0c1, z0c2, z0c3, z0c4, z0f0, z0f1, z0f2, z0f3, z0f4, z0l⟩ := z0.cells
  obtain ⟨z1c0, z1c1, z1c2, z1f0, z1f1, z1f2, z1l⟩ := z1.cells
  obtain ⟨zlc0, zlc1, zlc2, zlf0, zlf1, zlf2, zll⟩ := zl.cells
  go_wp2_with fail
  have y2 := z1.put_d ln V_rl v_rl v_rl le
  have yl := z1.res rl (.bool ln) (.slice V_rl v_rl v_rl) (.int .i64 le)
  have yb := below_put3 BW (show w.heap.size ≤ (w.heap.size + 1) by omega) (.bool ln) (.slice V_rl v_rl v_rl) (.int .i64 le)
  obtain ⟨p0, p1, p2, _⟩ := y2.cells
  refine bodyPost_ret (v := .tuple #[.agg #[.bool ln, .slice V_rl v_rl v_rl, .int .i64 le], .bool false]) (by simp [results, Tryd.results53, go_sem, p0, p1, p2]) rfl ?_
  exact ⟨_, _, rfl, yl, yb⟩
set_option maxHeartbeats 2000000 in
theorem rounded_down {dn nz : Bool} {A : Option Addr} {n c : Nat} {de t : Int} {x : Nat} {w : World} (h : Arg w A n c x) (hs : n ≤ 30000) (hT : Tab w) (mode : Int) {p : Int} {ln : Bool} {lx : Nat} {le : Int} (p1 : -10000 ≤ p) (p2 : p ≤ 10000) (hf : floorS ⟨dn, x, de⟩ p = (⟨ln, lx, le⟩, true, 0)) (hlx : blen lx ≤ 4096) {mn : Bool} {mx : Nat} {me : Int} {odd : Bool} (hf2 : floorS ⟨ln, lx, le⟩ (p + 1) = (⟨mn, mx, me⟩, odd, 0)) {q : Int}
    (HH : Hid (∀ (V : World) (A2 : Option Addr) (n2 : Nat), Arg V A n c x → Arg V A2 n2 n2 lx → Tab V → n2 ≤ 30000 → Calls Tryd.prog 86 #[.agg #[.bool dn, .slice A n c, .int .i64 de, .int .i64 t, .bool nz], .agg #[.bool ln, .slice A2 n2 n2, .int .i64 le], .int .i64 p] V fun en w' => en = .returned (.int .i64 q) ∧ Below V.heap.size V w')) (HG : Hid (∀ (V : World), Calls Tryd.prog 69 #[.int .i64 mode, .bool dn, .int .i64 q, .bool odd] V fun en w' => en = .returned (.bool false) ∧ Below V.heap.size V w')) :
    Calls Tryd.prog 53 #[.agg #[.bool dn, .slice A n c, .int .i64 de, .int .i64 t, .bool nz], .int .i64 mode, .int .i64 p] w (RoX w ln lx le true) := by
  have HF := Lib.hid hf
  have HF2 := Lib.hid hf2
  have q1 : IntKind.i64.wrap (p + 1) = p + 1 := IntWalk.i64_in _ (by omega)
  clear hf hf2
  go_enter Tryd.func53, Tryd.ntmps53
  go_wp2_with fail
  obtain ⟨V, hV, z0, z1, BW, sW⟩ := nrframe w 73 25 dn A n c de t nz
  rw [hV]
  clear hV sW
  replace hT := hT.on BW
  replace h := h.on BW
  obtain ⟨z0c0, z0c1, z0c2, z0c3, z0c4, z0f0, z0f1, z0f2, z0f3, z0f4, z0l⟩ := z0.cells
  obtain ⟨z1c0, z1c1, z1c2, z1f0, z1f1, z1f2, z1l⟩ := z1.cells
  go_wp2_with fail
  refine (dfloor_as h hs hT HF.out).mono ?_
  rintro en w1 ⟨V_rl, v_rl, rfl, rl, b⟩
  clear z0c0 z0c1 z0c2 z0c3 z0c4 z0f0 z0f1 z0f2 z0f3 z0f4 z0l z1c0 z1c1 z1c2 z1f0 z1f1 z1f2 z1l
  replace z0 := z0.on b
  replace z1 := z1.on b
  replace hT := hT.on b
  replace h := h.on b
  replace BW := Below.step BW b
  clear b
  have ll := res_n_le rl (k := 128) (by omega)
  obtain ⟨z0c0, z0c1, z0c2, z0c3, z0c4, z0f0, z0f1, z0f2, z0f3, z0f4, z0l⟩ := z0.cells
  obtain ⟨z1c0, z1c1, z1c2, z1f0, z1f1, z1f2, z1l⟩ := z1.cells
  go_upto_region 2 with fail
  clear z0c0 z0c1 z0c2 z0c3 z0c4 z0f0 z0f1 z0f2 z0f3 z0f4 z0l z1c0 z1c1 z1c2 z1f0 z1f1 z1f2 z1l
  obtain ⟨w2, e_w2⟩ : ∃ w', w1.alloc (dob ln V_rl v_rl v_rl le 25) = w' := ⟨_, rfl⟩
  have b : Below w1.heap.size w1 w2 := e_w2 ▸ below_lit _ _
  have hs_w2 : w2.heap.size = w1.heap.size + 1 := e_w2 ▸ size_lit w1 _ rfl
  have zl : DB w2 w1.heap.size 25 ln V_rl v_rl v_rl le := e_w2 ▸ DB.made w1 rfl 25 ln V_rl v_rl v_rl le
  rw [e_w2]
  clear e_w2
  replace z0 := z0.on b
  replace z1 := z1.on b
  replace hT := hT.on b
  replace h := h.on b
  replace rl := rl.on b
  replace BW := Below.step BW b
  clear b
  clear hs_w2
  obtain ⟨z0c0, z0c1, z0c2, z0c3, z0c4, z0f0, z0f1, z0f2, z0f3, z0f4, z0l⟩ := z0.cells
  obtain ⟨z1c0, z1c1, z1c2, z1f0, z1f1, z1f2, z1l⟩ := z1.cells
  obtain ⟨zlc0, zlc1, zlc2, zlf0, zlf1, zlf2, zll⟩ := zl.cells
  go_wp2_with fail
  refine (dfloor_as (rl.arg (by omega)) (by omega) hT HF2.out).mono ?_
  rintro en w3 ⟨V_rm, v_rm, rfl, rm, b⟩
  clear z0c0 z0c1 z0c2 z0c3 z0c4 z0f0 z0f1 z0f2 z0f3 z0f4 z0l z1c0 z1c1 z1c2 z1f0 z1f1 z1f2 z1l zlc0 zlc1 zlc2 zlf0 zlf1 zlf2 zll
  replace z0 := z0.on b
  replace z1 := z1.on b
  replace hT := hT.on b
  replace h := h.on b
  replace rl := rl.on b
  replace zl := zl.on b
  replace BW := Below.step BW b
  clear b
  obtain ⟨z0c0, z0c1, z0c2, z0c3, z0c4, z0f0, z0f1, z0f2, z0f3, z0f4, z0l⟩ := z0.cells
  obtain ⟨z1c0, z1c1, z1c2, z1f0, z1f1, z1f2, z1l⟩ := z1.cells
  obtain ⟨zlc0, zlc1, zlc2, zlf0, zlf1, zlf2, zll⟩ := zl.cells
  go_upto_region 5 with fail
  clear z0c0 z0c1 z0c2 z0c3 z0c4 z0f0 z0f1 z0f2 z0f3 z0f4 z0l z1c0 z1c1 z1c2 z1f0 z1f1 z1f2 z1l zlc0 zlc1 zlc2 zlf0 zlf1 zlf2 zll
  obtain ⟨w4, e_w4⟩ : ∃ w', w3.alloc (dob mn V_rm v_rm v_rm me 25) = w' := ⟨_, rfl⟩
  have b : Below w3.heap.size w3 w4 := e_w4 ▸ below_lit _ _
  have hs_w4 : w4.heap.size = w3.heap.size + 1 := e_w4 ▸ size_lit w3 _ rfl
  have zm : DB w4 w3.heap.size 25 mn V_rm v_rm v_rm me := e_w4 ▸ DB.made w3 rfl 25 mn V_rm v_rm v_rm me
  rw [e_w4]
  clear e_w4
  replace z0 := z0.on b
  replace z1 := z1.on b
  replace hT := hT.on b
  replace h := h.on b
  replace rl := rl.on b
  replace zl := zl.on b
  replace rm := rm.on b
  replace BW := Below.step BW b
  clear b
  clear hs_w4
  clear zm rm
  replace z0 := z0.on ((Below.refl _ _).drew : Below w4.heap.size w4 w4.drew)
  replace z1 := z1.on ((Below.refl _ _).drew : Below w4.heap.size w4 w4.drew)
  replace hT := hT.on ((Below.refl _ _).drew : Below w4.heap.size w4 w4.drew)
  replace h := h.on ((Below.refl _ _).drew : Below w4.heap.size w4 w4.drew)
  replace rl := rl.on ((Below.refl _ _).drew : Below w4.heap.size w4 w4.drew)
  replace zl := zl.on ((Below.refl _ _).drew : Below w4.heap.size w4 w4.drew)
  replace BW := Lib.hid (Below.step BW ((Below.refl _ _).drew : Below w4.heap.size w4 w4.drew))
  go_region_held3 (fun w' => w'.cell? ⟨w.heap.size, 0, none⟩ = some (.bool dn) ∧ w'.cell? ⟨w.heap.size, 1, none⟩ = some (.slice A n c) ∧ w'.cell? ⟨w.heap.size, 2, none⟩ = some (.int .i64 de) ∧ w'.cell? ⟨w.heap.size, 3, none⟩ = some (.int .i64 t) ∧ w'.cell? ⟨w.heap.size, 4, none⟩ = some (.bool nz) ∧ w'.cell? ⟨w1.heap.size, 0, none⟩ = some (.bool ln) ∧ w'.cell? ⟨w1.heap.size, 1, none⟩ = some (.slice V_rl v_rl v_rl) ∧ w'.cell? ⟨w1.heap.size, 2, none⟩ = some (.int .i64 le))
    ((exact ⟨z0.cells.1, z0.cells.2.1, z0.cells.2.2.1, z0.cells.2.2.2.1, z0.cells.2.2.2.2.1, zl.cells.1, zl.cells.2.1, zl.cells.2.2.1⟩))
    (first
      | (go_at_call 86
         (with_reducible refine (HH.out _ V_rl v_rl h (rl.arg (by omega)) hT (by omega)).mono ?_)
         rintro en w5 ⟨rfl, b⟩
         replace z0 := z0.on b
         replace z1 := z1.on b
         replace hT := hT.on b
         replace h := h.on b
         replace rl := rl.on b
         replace zl := zl.on b
         replace BW := Lib.hid (Below.step BW.out b)
         clear b)
      | (go_at_call 69
         (with_reducible refine (HG.out _).mono ?_)
         rintro en w6 ⟨rfl, b⟩
         replace z0 := z0.on b
         replace z1 := z1.on b
         replace hT := hT.on b
         replace h := h.on b
         replace rl := rl.on b
         replace zl := zl.on b
         replace BW := Lib.hid (Below.step BW.out b)
         clear b))
  replace BW := BW.out
  all_goals (
    obtain ⟨z1c0, z1c1, z1c2, z1f0, z1f1, z1f2, z1l⟩ := z1.cells
    obtain ⟨zlc0, zlc1, zlc2, zlf0, zlf1, zlf2, zll⟩ := zl.cells
    go_wp2_with fail
    have y2 := z1.put_d ln V_rl v_rl v_rl le
    have yl := z1.res rl (.bool ln) (.slice V_rl v_rl v_rl) (.int .i64 le)
    have yb := below_put3 BW (show w.heap.size ≤ (w.heap.size + 1) by omega) (.bool ln) (.slice V_rl v_rl v_rl) (.int .i64 le)
    obtain ⟨p0, p1, p2, _⟩ := y2.cells
    refine bodyPost_ret (v := .tuple #[.agg #[.bool ln, .slice V_rl v_rl v_rl, .int .i64 le], .bool true]) (by simp [results, Tryd.results53, go_sem, p0, p1, p2]) rfl ?_
    exact ⟨_, _, rfl, yl, yb⟩)
set_option maxHeartbeats 2000000 in
theorem rounded_up {dn nz : Bool} {A : Option Addr} {n c : Nat} {de t : Int} {x : Nat} {w : World} (h : Arg w A n c x) (hs : n ≤ 30000) (hT : Tab w) (mode : Int) {p : Int} {ln : Bool} {lx : Nat} {le : Int} (p1 : -10000 ≤ p) (p2 : p ≤ 10000) (hf : floorS ⟨dn, x, de⟩ p = (⟨ln, lx, le⟩, true, 0)) (hlx : blen lx ≤ 4096) {mn : Bool} {mx : Nat} {me : Int} {odd : Bool} (hf2 : floorS ⟨ln, lx, le⟩ (p + 1) = (⟨mn, mx, me⟩, odd, 0)) {q : Int}
    (HH : Hid (∀ (V : World) (A2 : Option Addr) (n2 : Nat), Arg V A n c x → Arg V A2 n2 n2 lx → Tab V → n2 ≤ 30000 → Calls Tryd.prog 86 #[.agg #[.bool dn, .slice A n c, .int .i64 de, .int .i64 t, .bool nz], .agg #[.bool ln, .slice A2 n2 n2, .int .i64 le], .int .i64 p] V fun en w' => en = .returned (.int .i64 q) ∧ Below V.heap.size V w')) (HG : Hid (∀ (V : World), Calls Tryd.prog 69 #[.int .i64 mode, .bool dn, .int .i64 q, .bool odd] V fun en w' => en = .returned (.bool true) ∧ Below V.heap.size V w')) {rn : Bool} {rx : Nat} {re : Int}
    (HW : Hid (∀ (V : World) (A2 : Option Addr) (n2 : Nat), Arg V A2 n2 n2 lx → Tab V → n2 ≤ 30000 → Calls Tryd.prog 36 #[.agg #[.bool dn, .slice A n c, .int .i64 de, .int .i64 t, .bool nz], .agg #[.bool ln, .slice A2 n2 n2, .int .i64 le], .int .i64 p] V (PlX V rn rx re))) :
    Calls Tryd.prog 53 #[.agg #[.bool dn, .slice A n c, .int .i64 de, .int .i64 t, .bool nz], .int .i64 mode, .int .i64 p] w (RoX w rn rx re true) := by
  have HF := Lib.hid hf
  have HF2 := Lib.hid hf2
  have q1 : IntKind.i64.wrap (p + 1) = p + 1 := IntWalk.i64_in _ (by omega)
  clear hf hf2
  go_enter Tryd.func53, Tryd.ntmps53
  go_wp2_with fail
  obtain ⟨V, hV, z0, z1, BW, sW⟩ := nrframe w 73 25 dn A n c de t nz
  rw [hV]
  clear hV sW
  replace hT := hT.on BW
  replace h := h.on BW
  obtain ⟨z0c0, z0c1, z0c2, z0c3, z0c4, z0f0, z0f1, z0f2, z0f3, z0f4, z0l⟩ := z0.cells
  obtain ⟨z1c0, z1c1, z1c2, z1f0, z1f1, z1f2, z1l⟩ := z1.cells
  go_wp2_with fail
  refine (dfloor_as h hs hT HF.out).mono ?_
  rintro en w1 ⟨V_rl, v_rl, rfl, rl, b⟩
  clear z0c0 z0c1 z0c2 z0c3 z0c4 z0f0 z0f1 z0f2 z0f3 z0f4 z0l z1c0 z1c1 z1c2 z1f0 z1f1 z1f2 z1l
  replace z0 := z0.on b
  replace z1 := z1.on b
  replace hT := hT.on b
  replace h := h.on b
  replace BW := Below.step BW b
  clear b
  have ll := res_n_le rl (k := 128) (by omega)
  obtain ⟨z0c0, z0c1, z0c2, z0c3, z0c4, z0f0, z0f1, z0f2, z0f3, z0f4, z0l⟩ := z0.cells
  obtain ⟨z1c0, z1c1, z1c2, z1f0, z1f1, z1f2, z1l⟩ := z1.cells
  go_upto_region 2 with fail
  clear z0c0 z0c1 z0c2 z0c3 z0c4 z0f0 z0f1 z0f2 z0f3 z0f4 z0l z1c0 z1c1 z1c2 z1f0 z1f1 z1f2 z1l
  obtain ⟨w2, e_w2⟩ : ∃ w', w1.alloc (dob ln V_rl v_rl v_rl le 25) = w' := ⟨_, rfl⟩
  have b : Below w1.heap.size w1 w2 := e_w2 ▸ below_lit _ _
  have hs_w2 : w2.heap.size = w1.heap.size + 1 := e_w2 ▸ size_lit w1 _ rfl
  have zl : DB w2 w1.heap.size 25 ln V_rl v_rl v_rl le := e_w2 ▸ DB.made w1 rfl 25 ln V_rl v_rl v_rl le
  rw [e_w2]
  clear e_w2
  replace z0 := z0.on b
  replace z1 := z1.on b
  replace hT := hT.on b
  replace h := h.on b
  replace rl := rl.on b
  replace BW := Below.step BW b
  clear b
  clear hs_w2
  obtain ⟨z0c0, z0c1, z0c2, z0c3, z0c4, z0f0, z0f1, z0f2, z0f3, z0f4, z0l⟩ := z0.cells
  obtain ⟨z1c0, z1c1, z1c2, z1f0, z1f1, z1f2, z1l⟩ := z1.cells
  obtain ⟨zlc0, zlc1, zlc2, zlf0, zlf1, zlf2, zll⟩ := zl.cells
  go_wp2_with fail
  refine (dfloor_as (rl.arg (by omega)) (by omega) hT HF2.out).mono ?_
  rintro en w3 ⟨V_rm, v_rm, rfl, rm, b⟩
  clear z0c0 z0c1 z0c2 z0c3 z0c4 z0f0 z0f1 z0f2 z0f3 z0f4 z0l z1c0 z1c1 z1c2 z1f0 z1f1 z1f2 z1l zlc0 zlc1 zlc2 zlf0 zlf1 zlf2 zll
  replace z0 := z0.on b
  replace z1 := z1.on b
  replace hT := hT.on b
  replace h := h.on b
  replace rl := rl.on b
  replace zl := zl.on b
  replace BW := Below.step BW b
  clear b
  obtain ⟨z0c0, z0c1, z0c2, z0c3, z0c4, z0f0, z0f1, z0f2, z0f3, z0f4, z0l⟩ := z0.cells
  obtain ⟨z1c0, z1c1, z1c2, z1f0, z1f1, z1f2, z1l⟩ := z1.cells
  obtain ⟨zlc0, zlc1, zlc2, zlf0, zlf1, zlf2, zll⟩ := zl.cells
  go_upto_region 5 with fail
  clear z0c0 z0c1 z0c2 z0c3 z0c4 z0f0 z0f1 z0f2 z0f3 z0f4 z0l z1c0 z1c1 z1c2 z1f0 z1f1 z1f2 z1l zlc0 zlc1 zlc2 zlf0 zlf1 zlf2 zll
  obtain ⟨w4, e_w4⟩ : ∃ w', w3.alloc (dob mn V_rm v_rm v_rm me 25) = w' := ⟨_, rfl⟩
  have b : Below w3.heap.size w3 w4 := e_w4 ▸ below_lit _ _
  have hs_w4 : w4.heap.size = w3.heap.size + 1 := e_w4 ▸ size_lit w3 _ rfl
  have zm : DB w4 w3.heap.size 25 mn V_rm v_rm v_rm me := e_w4 ▸ DB.made w3 rfl 25 mn V_rm v_rm v_rm me
  rw [e_w4]
  clear e_w4
  replace z0 := z0.on b
  replace z1 := z1.on b
  replace hT := hT.on b
  replace h := h.on b
  replace rl := rl.on b
  replace zl := zl.on b
  replace rm := rm.on b
  replace BW := Below.step BW b
  clear b
  clear hs_w4
  clear zm rm
  replace z0 := z0.on ((Below.refl _ _).drew : Below w4.heap.size w4 w4.drew)
  replace z1 := z1.on ((Below.refl _ _).drew : Below w4.heap.size w4 w4.drew)
  replace hT := hT.on ((Below.refl _ _).drew : Below w4.heap.size w4 w4.drew)
  replace h := h.on ((Below.refl _ _).drew : Below w4.heap.size w4 w4.drew)
  replace rl := rl.on ((Below.refl _ _).drew : Below w4.heap.size w4 w4.drew)
  replace zl := zl.on ((Below.refl _ _).drew : Below w4.heap.size w4 w4.drew)
  replace BW := Lib.hid (Below.step BW ((Below.refl _ _).drew : Below w4.heap.size w4 w4.drew))
  go_region_held3 (fun w' => w'.cell? ⟨w.heap.size, 0, none⟩ = some (.bool dn) ∧ w'.cell? ⟨w.heap.size, 1, none⟩ = some (.slice A n c) ∧ w'.cell? ⟨w.heap.size, 2, none⟩ = some (.int .i64 de) ∧ w'.cell? ⟨w.heap.size, 3, none⟩ = some (.int .i64 t) ∧ w'.cell? ⟨w.heap.size, 4, none⟩ = some (.bool nz) ∧ w'.cell? ⟨w1.heap.size, 0, none⟩ = some (.bool ln) ∧ w'.cell? ⟨w1.heap.size, 1, none⟩ = some (.slice V_rl v_rl v_rl) ∧ w'.cell? ⟨w1.heap.size, 2, none⟩ = some (.int .i64 le))
    ((exact ⟨z0.cells.1, z0.cells.2.1, z0.cells.2.2.1, z0.cells.2.2.2.1, z0.cells.2.2.2.2.1, zl.cells.1, zl.cells.2.1, zl.cells.2.2.1⟩))
    (first
      | (go_at_call 86
         (with_reducible refine (HH.out _ V_rl v_rl h (rl.arg (by omega)) hT (by omega)).mono ?_)
         rintro en w5 ⟨rfl, b⟩
         replace z0 := z0.on b
         replace z1 := z1.on b
         replace hT := hT.on b
         replace h := h.on b
         replace rl := rl.on b
         replace zl := zl.on b
         replace BW := Lib.hid (Below.step BW.out b)
         clear b)
      | (go_at_call 69
         (with_reducible refine (HG.out _).mono ?_)
         rintro en w6 ⟨rfl, b⟩
         replace z0 := z0.on b
         replace z1 := z1.on b
         replace hT := hT.on b
         replace h := h.on b
         replace rl := rl.on b
         replace zl := zl.on b
         replace BW := Lib.hid (Below.step BW.out b)
         clear b))
  replace BW := BW.out
  all_goals (
    obtain ⟨z0c0, z0c1, z0c2, z0c3, z0c4, z0f0, z0f1, z0f2, z0f3, z0f4, z0l⟩ := z0.cells
    obtain ⟨z1c0, z1c1, z1c2, z1f0, z1f1, z1f2, z1l⟩ := z1.cells
    obtain ⟨zlc0, zlc1, zlc2, zlf0, zlf1, zlf2, zll⟩ := zl.cells
    go_wp2_with fail
    refine (HW.out _ V_rl v_rl (rl.arg (by omega)) hT (by omega)).mono ?_
    rintro en w7 ⟨V_rr, v_rr, rfl, rr, b⟩
    clear z0c0 z0c1 z0c2 z0c3 z0c4 z0f0 z0f1 z0f2 z0f3 z0f4 z0l z1c0 z1c1 z1c2 z1f0 z1f1 z1f2 z1l zlc0 zlc1 zlc2 zlf0 zlf1 zlf2 zll
    replace z0 := z0.on b
    replace z1 := z1.on b
    replace hT := hT.on b
    replace h := h.on b
    replace rl := rl.on b
    replace zl := zl.on b
    replace BW := Below.step BW b
    clear b
    obtain ⟨z1c0, z1c1, z1c2, z1f0, z1f1, z1f2, z1l⟩ := z1.cells
    obtain ⟨zlc0, zlc1, zlc2, zlf0, zlf1, zlf2, zll⟩ := zl.cells
    go_wp2_with fail
    have y2 := z1.put_d rn V_rr v_rr v_rr re
    have yl := z1.res rr (.bool rn) (.slice V_rr v_rr v_rr) (.int .i64 re)
    have yb := below_put3 BW (show w.heap.size ≤ (w.heap.size + 1) by omega) (.bool rn) (.slice V_rr v_rr v_rr) (.int .i64 re)
    obtain ⟨p0, p1, p2, _⟩ := y2.cells
    refine bodyPost_ret (v := .tuple #[.agg #[.bool rn, .slice V_rr v_rr v_rr, .int .i64 re], .bool true]) (by simp [results, Tryd.results53, go_sem, p0, p1, p2]) rfl ?_
    exact ⟨_, _, rfl, yl, yb⟩)
end Go.Proofs.YtkjbejdeejpdoaaDoor
