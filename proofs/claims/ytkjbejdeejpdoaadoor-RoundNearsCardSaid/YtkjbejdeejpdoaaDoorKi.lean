
/-
  The walks of round's Neighbours and Tiny.
-/
import Derived.Test.YtkjbejdeejpdoaaDoorKf
namespace Go.Proofs.YtkjbejdeejpdoaaDoor
open Go.RowKit
set_option linter.unusedVariables false

theorem knframe (w : World) (t tr : TypeId) (a b c : Int) (n : Bool) (A : Option Addr) (l k : Nat) (e : Int) : ∃ W, (((w.alloc (.cells #[.int .i64 a, .int .i64 b, .int .i64 c] t)).alloc (dob n A l k e tr)).alloc (dob false none 0 0 0 tr)).alloc (dob false none 0 0 0 tr) = W ∧
    FB W w.heap.size t a b c ∧ DB W (w.heap.size + 1) tr n A l k e ∧ DB W (w.heap.size + 1 + 1) tr false none 0 0 0 ∧ DB W (w.heap.size + 1 + 1 + 1) tr false none 0 0 0 ∧ Below w.heap.size w W ∧ W.heap.size = w.heap.size + 4 :=
  ⟨_, rfl, (((Box.made w t (notU_int _) (notU_int _) (notU_int _)).alloc _).alloc _).alloc _, ((DB.made _ (by simp) tr n A l k e).alloc _).alloc _, (DB.made _ (by simp) tr false none 0 0 0).alloc _, DB.made _ (by simp) tr false none 0 0 0,
    ((((Below.refl _ _).alloc (by simp <;> omega) _).alloc (by simp <;> omega) _).alloc (by simp <;> omega) _).alloc (by simp <;> omega) _, by simp⟩
/-- what Neighbours tells. -/
def NkX (w : World) (ln : Bool) (lx : Nat) (le : Int) (hn : Bool) (hx : Nat) (he : Int) (err : Int) (en : Ending) (w' : World) : Prop :=
  ∃ A n A' n', en = .returned (.tuple #[.agg #[.bool ln, .slice A n n, .int .i64 le], .agg #[.bool hn, .slice A' n' n', .int .i64 he], .int .i64 err]) ∧ Res w' A n lx ∧ Res w' A' n' hx ∧ Below w.heap.size w w'
set_option maxHeartbeats 1000000 in
theorem nk_range {B P W M E H : Nat} {low : Int} (hf : Fm B P W M E H low) {A : Option Addr} {n c x : Nat} {neg : Bool} {e : Int} {w : World} (h : Arg w A n c x) (hs : n ≤ 30000) (hT : Tab w) (HK : Hid (∀ (V : World), Arg V A n c x → n ≤ 30000 → Tab V → Calls Tryd.prog 33 #[.agg #[.bool neg, .slice A n c, .int .i64 e]] V (TkX V false 0 0 0 false 3))) :
    Calls Tryd.prog 12 #[.agg #[.int .i64 (B : Int), .int .i64 (P : Int), .int .i64 (W : Int)], .agg #[.bool neg, .slice A n c, .int .i64 e]] w (NkX w false 0 0 false 0 0 3) := by
  clear hf
  go_enter Tryd.func12, Tryd.ntmps12
  go_wp2_with fail
  obtain ⟨V, hV, z0, z1, z2, z3, BW, sW⟩ := knframe w 28 25 (B : Int) (P : Int) (W : Int) neg A n c e
  rw [hV]
  clear hV sW
  replace hT := hT.on BW
  replace h := h.on BW
  refine (HK.out _ h hs hT).mono ?_
  rintro en w1 ⟨V_rd, v_rd, rfl, rd, b⟩
  replace z0 := z0.on b
  replace z1 := z1.on b
  replace z2 := z2.on b
  replace z3 := z3.on b
  replace hT := hT.on b
  replace h := h.on b
  replace BW := Below.step BW b
  clear b
  have l1 := z3.cells.2.2.2.2.2.2
  obtain ⟨z0c0, z0c1, z0c2, z0f0, z0f1, z0f2, z0l⟩ := z0.cells
  obtain ⟨z1c0, z1c1, z1c2, z1f0, z1f1, z1f2, z1l⟩ := z1.cells
  obtain ⟨z2c0, z2c1, z2c2, z2f0, z2f1, z2f2, z2l⟩ := z2.cells
  obtain ⟨z3c0, z3c1, z3c2, z3f0, z3f1, z3f2, z3l⟩ := z3.cells
  go_upto_region 2 with fail
  clear z0c0 z0c1 z0c2 z0f0 z0f1 z0f2 z0l z1c0 z1c1 z1c2 z1f0 z1f1 z1f2 z1l z2c0 z2c1 z2c2 z2f0 z2f1 z2f2 z2l z3c0 z3c1 z3c2 z3f0 z3f1 z3f2 z3l
  obtain ⟨w2, e_w2⟩ : ∃ w', w1.alloc (nob false V_rd v_rd v_rd 0 0 false 73) = w' := ⟨_, rfl⟩
  have b : Below w1.heap.size w1 w2 := e_w2 ▸ below_lit _ _
  have hs_w2 : w2.heap.size = w1.heap.size + 1 := e_w2 ▸ size_lit w1 _ rfl
  have zn : NB w2 w1.heap.size 73 false V_rd v_rd v_rd 0 0 false := e_w2 ▸ NB.made w1 rfl 73 false V_rd v_rd v_rd 0 0 false
  rw [e_w2]
  clear e_w2
  replace z0 := z0.on b
  replace z1 := z1.on b
  replace z2 := z2.on b
  replace z3 := z3.on b
  replace hT := hT.on b
  replace h := h.on b
  replace rd := rd.on b
  replace BW := Below.step BW b
  clear b
  clear hs_w2
  obtain ⟨z2c0, z2c1, z2c2, z2f0, z2f1, z2f2, z2l⟩ := z2.cells
  obtain ⟨z3c0, z3c1, z3c2, z3f0, z3f1, z3f2, z3l⟩ := z3.cells
  obtain ⟨znc0, znc1, znc2, znc3, znc4, znf0, znf1, znf2, znf3, znf4, znl⟩ := zn.cells
  go_wp2_with fail
  clear z2c0 z2c1 z2c2 z2f0 z2f1 z2f2 z2l z3c0 z3c1 z3c2 z3f0 z3f1 z3f2 z3l znc0 znc1 znc2 znc3 znc4 znf0 znf1 znf2 znf3 znf4 znl
  have y2 := ((z2.put_d false none 0 0 0).other (s := w.heap.size + 1 + 1 + 1) (by omega) (.bool false) (.slice none 0 0) (.int .i64 0))
  have y3 := ((z3.other (s := w.heap.size + 1 + 1) (by omega) (.bool false) (.slice none 0 0) (.int .i64 0)).put_d false none 0 0 0)
  have yl := ((z3.other (s := w.heap.size + 1 + 1) (by omega) (.bool false) (.slice none 0 0) (.int .i64 0)).res (z2.res (Res.none_ _) (.bool false) (.slice none 0 0) (.int .i64 0)) (.bool false) (.slice none 0 0) (.int .i64 0))
  have yh := ((z3.other (s := w.heap.size + 1 + 1) (by omega) (.bool false) (.slice none 0 0) (.int .i64 0)).res (z2.res (Res.none_ _) (.bool false) (.slice none 0 0) (.int .i64 0)) (.bool false) (.slice none 0 0) (.int .i64 0))
  have yb := (below_put3 (below_put3 BW (show w.heap.size ≤ w.heap.size + 1 + 1 by omega) (.bool false) (.slice none 0 0) (.int .i64 0)) (show w.heap.size ≤ w.heap.size + 1 + 1 + 1 by omega) (.bool false) (.slice none 0 0) (.int .i64 0))
  obtain ⟨p0, p1, p2, _⟩ := y2.cells
  obtain ⟨r0, r1, r2, _⟩ := y3.cells
  refine bodyPost_ret (v := .tuple #[.agg #[.bool false, .slice none 0 0, .int .i64 0], .agg #[.bool false, .slice none 0 0, .int .i64 0], .int .i64 3]) (by simp [results, Tryd.results12, go_sem, p0, p1, p2, r0, r1, r2]) rfl ?_
  exact ⟨_, _, _, _, rfl, yl, yh, yb⟩
set_option maxHeartbeats 1000000 in
theorem nk_zero {B P W M E H : Nat} {low : Int} (hf : Fm B P W M E H low) {A : Option Addr} {n c x : Nat} {neg : Bool} {e : Int} {w : World} (h : Arg w A n c x) (hs : n ≤ 30000) (hT : Tab w) (HK : Hid (∀ (V : World), Arg V A n c x → n ≤ 30000 → Tab V → Calls Tryd.prog 33 #[.agg #[.bool neg, .slice A n c, .int .i64 e]] V (TkX V false 0 0 0 true 0))) :
    Calls Tryd.prog 12 #[.agg #[.int .i64 (B : Int), .int .i64 (P : Int), .int .i64 (W : Int)], .agg #[.bool neg, .slice A n c, .int .i64 e]] w (NkX w false 0 0 false 0 0 0) := by
  clear hf
  go_enter Tryd.func12, Tryd.ntmps12
  go_wp2_with fail
  obtain ⟨V, hV, z0, z1, z2, z3, BW, sW⟩ := knframe w 28 25 (B : Int) (P : Int) (W : Int) neg A n c e
  rw [hV]
  clear hV sW
  replace hT := hT.on BW
  replace h := h.on BW
  refine (HK.out _ h hs hT).mono ?_
  rintro en w1 ⟨V_rd, v_rd, rfl, rd, b⟩
  replace z0 := z0.on b
  replace z1 := z1.on b
  replace z2 := z2.on b
  replace z3 := z3.on b
  replace hT := hT.on b
  replace h := h.on b
  replace BW := Below.step BW b
  clear b
  have l1 := z3.cells.2.2.2.2.2.2
  obtain ⟨z0c0, z0c1, z0c2, z0f0, z0f1, z0f2, z0l⟩ := z0.cells
  obtain ⟨z1c0, z1c1, z1c2, z1f0, z1f1, z1f2, z1l⟩ := z1.cells
  obtain ⟨z2c0, z2c1, z2c2, z2f0, z2f1, z2f2, z2l⟩ := z2.cells
  obtain ⟨z3c0, z3c1, z3c2, z3f0, z3f1, z3f2, z3l⟩ := z3.cells
  go_upto_region 2 with fail
  clear z0c0 z0c1 z0c2 z0f0 z0f1 z0f2 z0l z1c0 z1c1 z1c2 z1f0 z1f1 z1f2 z1l z2c0 z2c1 z2c2 z2f0 z2f1 z2f2 z2l z3c0 z3c1 z3c2 z3f0 z3f1 z3f2 z3l
  obtain ⟨w2, e_w2⟩ : ∃ w', w1.alloc (nob false V_rd v_rd v_rd 0 0 true 73) = w' := ⟨_, rfl⟩
  have b : Below w1.heap.size w1 w2 := e_w2 ▸ below_lit _ _
  have hs_w2 : w2.heap.size = w1.heap.size + 1 := e_w2 ▸ size_lit w1 _ rfl
  have zn : NB w2 w1.heap.size 73 false V_rd v_rd v_rd 0 0 true := e_w2 ▸ NB.made w1 rfl 73 false V_rd v_rd v_rd 0 0 true
  rw [e_w2]
  clear e_w2
  replace z0 := z0.on b
  replace z1 := z1.on b
  replace z2 := z2.on b
  replace z3 := z3.on b
  replace hT := hT.on b
  replace h := h.on b
  replace rd := rd.on b
  replace BW := Below.step BW b
  clear b
  clear hs_w2
  obtain ⟨z2c0, z2c1, z2c2, z2f0, z2f1, z2f2, z2l⟩ := z2.cells
  obtain ⟨z3c0, z3c1, z3c2, z3f0, z3f1, z3f2, z3l⟩ := z3.cells
  obtain ⟨znc0, znc1, znc2, znc3, znc4, znf0, znf1, znf2, znf3, znf4, znl⟩ := zn.cells
  go_wp2_with fail
  clear z2c0 z2c1 z2c2 z2f0 z2f1 z2f2 z2l z3c0 z3c1 z3c2 z3f0 z3f1 z3f2 z3l znc0 znc1 znc2 znc3 znc4 znf0 znf1 znf2 znf3 znf4 znl
  have y2 := ((z2.put_d false none 0 0 0).other (s := w.heap.size + 1 + 1 + 1) (by omega) (.bool false) (.slice none 0 0) (.int .i64 0))
  have y3 := ((z3.other (s := w.heap.size + 1 + 1) (by omega) (.bool false) (.slice none 0 0) (.int .i64 0)).put_d false none 0 0 0)
  have yl := ((z3.other (s := w.heap.size + 1 + 1) (by omega) (.bool false) (.slice none 0 0) (.int .i64 0)).res (z2.res (Res.none_ _) (.bool false) (.slice none 0 0) (.int .i64 0)) (.bool false) (.slice none 0 0) (.int .i64 0))
  have yh := ((z3.other (s := w.heap.size + 1 + 1) (by omega) (.bool false) (.slice none 0 0) (.int .i64 0)).res (z2.res (Res.none_ _) (.bool false) (.slice none 0 0) (.int .i64 0)) (.bool false) (.slice none 0 0) (.int .i64 0))
  have yb := (below_put3 (below_put3 BW (show w.heap.size ≤ w.heap.size + 1 + 1 by omega) (.bool false) (.slice none 0 0) (.int .i64 0)) (show w.heap.size ≤ w.heap.size + 1 + 1 + 1 by omega) (.bool false) (.slice none 0 0) (.int .i64 0))
  obtain ⟨p0, p1, p2, _⟩ := y2.cells
  obtain ⟨r0, r1, r2, _⟩ := y3.cells
  refine bodyPost_ret (v := .tuple #[.agg #[.bool false, .slice none 0 0, .int .i64 0], .agg #[.bool false, .slice none 0 0, .int .i64 0], .int .i64 0]) (by simp [results, Tryd.results12, go_sem, p0, p1, p2, r0, r1, r2]) rfl ?_
  exact ⟨_, _, _, _, rfl, yl, yh, yb⟩
set_option maxHeartbeats 1000000 in
theorem nk_exact {B P W M E H : Nat} {low : Int} (hf : Fm B P W M E H low) {A : Option Addr} {n c x : Nat} {neg : Bool} {e : Int} {w : World} (h : Arg w A n c x) (hs : n ≤ 30000) (hT : Tab w) {dx : Nat} {de t : Int} (HK : Hid (∀ (V : World), Arg V A n c x → n ≤ 30000 → Tab V → Calls Tryd.prog 33 #[.agg #[.bool neg, .slice A n c, .int .i64 e]] V (TkX V neg dx de t false 0))) (hdx : blen dx ≤ 4096) {p : Int}
    (HP : Hid (∀ (V : World) (A1 : Option Addr) (n1 : Nat), Calls Tryd.prog 34 #[.agg #[.bool neg, .slice A1 n1 n1, .int .i64 de, .int .i64 t, .bool false], .agg #[.int .i64 (B : Int), .int .i64 (P : Int), .int .i64 (W : Int)]] V fun en w' => en = .returned (.int .i64 p) ∧ Below V.heap.size V w'))
    {ln : Bool} {lx : Nat} {le : Int} {lost : Bool} (HF : Hid (floorS ⟨neg, dx, de⟩ p = (⟨ln, lx, le⟩, lost, 0))) (hlx : blen lx ≤ 4096) (hlost : lost = false) :
    Calls Tryd.prog 12 #[.agg #[.int .i64 (B : Int), .int .i64 (P : Int), .int .i64 (W : Int)], .agg #[.bool neg, .slice A n c, .int .i64 e]] w (NkX w ln lx le neg dx de 0) := by
  subst hlost
  clear hf
  go_enter Tryd.func12, Tryd.ntmps12
  go_wp2_with fail
  obtain ⟨V, hV, z0, z1, z2, z3, BW, sW⟩ := knframe w 28 25 (B : Int) (P : Int) (W : Int) neg A n c e
  rw [hV]
  clear hV sW
  replace hT := hT.on BW
  replace h := h.on BW
  refine (HK.out _ h hs hT).mono ?_
  rintro en w1 ⟨V_rd, v_rd, rfl, rd, b⟩
  replace z0 := z0.on b
  replace z1 := z1.on b
  replace z2 := z2.on b
  replace z3 := z3.on b
  replace hT := hT.on b
  replace h := h.on b
  replace BW := Below.step BW b
  clear b
  have l1 := z3.cells.2.2.2.2.2.2
  obtain ⟨z0c0, z0c1, z0c2, z0f0, z0f1, z0f2, z0l⟩ := z0.cells
  obtain ⟨z1c0, z1c1, z1c2, z1f0, z1f1, z1f2, z1l⟩ := z1.cells
  obtain ⟨z2c0, z2c1, z2c2, z2f0, z2f1, z2f2, z2l⟩ := z2.cells
  obtain ⟨z3c0, z3c1, z3c2, z3f0, z3f1, z3f2, z3l⟩ := z3.cells
  go_upto_region 2 with fail
  clear z0c0 z0c1 z0c2 z0f0 z0f1 z0f2 z0l z1c0 z1c1 z1c2 z1f0 z1f1 z1f2 z1l z2c0 z2c1 z2c2 z2f0 z2f1 z2f2 z2l z3c0 z3c1 z3c2 z3f0 z3f1 z3f2 z3l
  obtain ⟨w2, e_w2⟩ : ∃ w', w1.alloc (nob neg V_rd v_rd v_rd de t false 73) = w' := ⟨_, rfl⟩
  have b : Below w1.heap.size w1 w2 := e_w2 ▸ below_lit _ _
  have hs_w2 : w2.heap.size = w1.heap.size + 1 := e_w2 ▸ size_lit w1 _ rfl
  have zn : NB w2 w1.heap.size 73 neg V_rd v_rd v_rd de t false := e_w2 ▸ NB.made w1 rfl 73 neg V_rd v_rd v_rd de t false
  rw [e_w2]
  clear e_w2
  replace z0 := z0.on b
  replace z1 := z1.on b
  replace z2 := z2.on b
  replace z3 := z3.on b
  replace hT := hT.on b
  replace h := h.on b
  replace rd := rd.on b
  replace BW := Below.step BW b
  clear b
  clear hs_w2
  have lk := res_n_le rd (k := 128) (by omega)
  obtain ⟨z0c0, z0c1, z0c2, z0f0, z0f1, z0f2, z0l⟩ := z0.cells
  obtain ⟨znc0, znc1, znc2, znc3, znc4, znf0, znf1, znf2, znf3, znf4, znl⟩ := zn.cells
  go_wp2_with fail
  refine (HP.out _ _ _).mono ?_
  rintro en w3 ⟨rfl, b⟩
  clear z0c0 z0c1 z0c2 z0f0 z0f1 z0f2 z0l znc0 znc1 znc2 znc3 znc4 znf0 znf1 znf2 znf3 znf4 znl
  replace z0 := z0.on b
  replace z1 := z1.on b
  replace z2 := z2.on b
  replace z3 := z3.on b
  replace hT := hT.on b
  replace h := h.on b
  replace rd := rd.on b
  replace zn := zn.on b
  replace BW := Below.step BW b
  clear b
  obtain ⟨znc0, znc1, znc2, znc3, znc4, znf0, znf1, znf2, znf3, znf4, znl⟩ := zn.cells
  go_wp2_with fail
  refine (dfloor_as (rd.arg (by omega)) (by omega) hT HF.out).mono ?_
  rintro en w4 ⟨V_rl, v_rl, rfl, rl, b⟩
  clear znc0 znc1 znc2 znc3 znc4 znf0 znf1 znf2 znf3 znf4 znl
  replace z0 := z0.on b
  replace z1 := z1.on b
  replace z2 := z2.on b
  replace z3 := z3.on b
  replace hT := hT.on b
  replace h := h.on b
  replace rd := rd.on b
  replace zn := zn.on b
  replace BW := Below.step BW b
  clear b
  have ll := res_n_le rl (k := 128) (by omega)
  have l2 := z3.cells.2.2.2.2.2.2
  obtain ⟨z0c0, z0c1, z0c2, z0f0, z0f1, z0f2, z0l⟩ := z0.cells
  obtain ⟨z1c0, z1c1, z1c2, z1f0, z1f1, z1f2, z1l⟩ := z1.cells
  obtain ⟨z2c0, z2c1, z2c2, z2f0, z2f1, z2f2, z2l⟩ := z2.cells
  obtain ⟨z3c0, z3c1, z3c2, z3f0, z3f1, z3f2, z3l⟩ := z3.cells
  go_upto_region 6 with fail
  clear z0c0 z0c1 z0c2 z0f0 z0f1 z0f2 z0l z1c0 z1c1 z1c2 z1f0 z1f1 z1f2 z1l z2c0 z2c1 z2c2 z2f0 z2f1 z2f2 z2l z3c0 z3c1 z3c2 z3f0 z3f1 z3f2 z3l
  obtain ⟨w5, e_w5⟩ : ∃ w', w4.alloc (dob ln V_rl v_rl v_rl le 25) = w' := ⟨_, rfl⟩
  have b : Below w4.heap.size w4 w5 := e_w5 ▸ below_lit _ _
  have hs_w5 : w5.heap.size = w4.heap.size + 1 := e_w5 ▸ size_lit w4 _ rfl
  have zl : DB w5 w4.heap.size 25 ln V_rl v_rl v_rl le := e_w5 ▸ DB.made w4 rfl 25 ln V_rl v_rl v_rl le
  rw [e_w5]
  clear e_w5
  replace z0 := z0.on b
  replace z1 := z1.on b
  replace z2 := z2.on b
  replace z3 := z3.on b
  replace hT := hT.on b
  replace h := h.on b
  replace rd := rd.on b
  replace zn := zn.on b
  replace rl := rl.on b
  replace BW := Below.step BW b
  clear b
  clear hs_w5
  have nz3b0 : w1.heap.size ≠ w.heap.size + 1 + 1 := by omega
  have mz3b0 : w.heap.size + 1 + 1 ≠ w1.heap.size := by omega
  have nz3b1 : w1.heap.size ≠ w.heap.size + 1 + 1 + 1 := by omega
  have mz3b1 : w.heap.size + 1 + 1 + 1 ≠ w1.heap.size := by omega
  have nz3a0 : w4.heap.size ≠ w.heap.size + 1 + 1 := by omega
  have mz3a0 : w.heap.size + 1 + 1 ≠ w4.heap.size := by omega
  have nz3a1 : w4.heap.size ≠ w.heap.size + 1 + 1 + 1 := by omega
  have mz3a1 : w.heap.size + 1 + 1 + 1 ≠ w4.heap.size := by omega
  obtain ⟨z2c0, z2c1, z2c2, z2f0, z2f1, z2f2, z2l⟩ := z2.cells
  obtain ⟨z3c0, z3c1, z3c2, z3f0, z3f1, z3f2, z3l⟩ := z3.cells
  obtain ⟨znc0, znc1, znc2, znc3, znc4, znf0, znf1, znf2, znf3, znf4, znl⟩ := zn.cells
  obtain ⟨zlc0, zlc1, zlc2, zlf0, zlf1, zlf2, zll⟩ := zl.cells
  go_wp2_with fail
  go_region
  go_wp2_with fail
  clear z2c0 z2c1 z2c2 z2f0 z2f1 z2f2 z2l z3c0 z3c1 z3c2 z3f0 z3f1 z3f2 z3l znc0 znc1 znc2 znc3 znc4 znf0 znf1 znf2 znf3 znf4 znl zlc0 zlc1 zlc2 zlf0 zlf1 zlf2 zll
  have y2 := ((z2.put_d ln V_rl v_rl v_rl le).other (s := w.heap.size + 1 + 1 + 1) (by omega) (.bool neg) (.slice V_rd v_rd v_rd) (.int .i64 de)).on ((Below.refl _ _).drew)
  have y3 := ((z3.other (s := w.heap.size + 1 + 1) (by omega) (.bool ln) (.slice V_rl v_rl v_rl) (.int .i64 le)).put_d neg V_rd v_rd v_rd de).on ((Below.refl _ _).drew)
  have yl := ((z3.other (s := w.heap.size + 1 + 1) (by omega) (.bool ln) (.slice V_rl v_rl v_rl) (.int .i64 le)).res (z2.res rl (.bool ln) (.slice V_rl v_rl v_rl) (.int .i64 le)) (.bool neg) (.slice V_rd v_rd v_rd) (.int .i64 de)).on ((Below.refl _ _).drew)
  have yh := ((z3.other (s := w.heap.size + 1 + 1) (by omega) (.bool ln) (.slice V_rl v_rl v_rl) (.int .i64 le)).res (z2.res rd (.bool ln) (.slice V_rl v_rl v_rl) (.int .i64 le)) (.bool neg) (.slice V_rd v_rd v_rd) (.int .i64 de)).on ((Below.refl _ _).drew)
  have yb := (below_put3 (below_put3 BW (show w.heap.size ≤ w.heap.size + 1 + 1 by omega) (.bool ln) (.slice V_rl v_rl v_rl) (.int .i64 le)) (show w.heap.size ≤ w.heap.size + 1 + 1 + 1 by omega) (.bool neg) (.slice V_rd v_rd v_rd) (.int .i64 de)).drew
  obtain ⟨p0, p1, p2, _⟩ := y2.cells
  obtain ⟨r0, r1, r2, _⟩ := y3.cells
  refine bodyPost_ret (v := .tuple #[.agg #[.bool ln, .slice V_rl v_rl v_rl, .int .i64 le], .agg #[.bool neg, .slice V_rd v_rd v_rd, .int .i64 de], .int .i64 0]) (by simp [results, Tryd.results12, go_sem, p0, p1, p2, r0, r1, r2]) rfl ?_
  exact ⟨_, _, _, _, rfl, yl, yh, yb⟩
set_option maxHeartbeats 1000000 in
theorem nk_lost {B P W M E H : Nat} {low : Int} (hf : Fm B P W M E H low) {A : Option Addr} {n c x : Nat} {neg : Bool} {e : Int} {w : World} (h : Arg w A n c x) (hs : n ≤ 30000) (hT : Tab w) {dx : Nat} {de t : Int} (HK : Hid (∀ (V : World), Arg V A n c x → n ≤ 30000 → Tab V → Calls Tryd.prog 33 #[.agg #[.bool neg, .slice A n c, .int .i64 e]] V (TkX V neg dx de t false 0))) (hdx : blen dx ≤ 4096) {p : Int}
    (HP : Hid (∀ (V : World) (A1 : Option Addr) (n1 : Nat), Calls Tryd.prog 34 #[.agg #[.bool neg, .slice A1 n1 n1, .int .i64 de, .int .i64 t, .bool false], .agg #[.int .i64 (B : Int), .int .i64 (P : Int), .int .i64 (W : Int)]] V fun en w' => en = .returned (.int .i64 p) ∧ Below V.heap.size V w'))
    {ln : Bool} {lx : Nat} {le : Int} {lost : Bool} (HF : Hid (floorS ⟨neg, dx, de⟩ p = (⟨ln, lx, le⟩, lost, 0))) (hlx : blen lx ≤ 4096) (hlost : lost = true) {hn : Bool} {hx : Nat} {he : Int} (HA : Hid (addS ⟨ln, lx, le⟩ ⟨neg, 1, p⟩ = (⟨hn, hx, he⟩, 0))) :
    Calls Tryd.prog 12 #[.agg #[.int .i64 (B : Int), .int .i64 (P : Int), .int .i64 (W : Int)], .agg #[.bool neg, .slice A n c, .int .i64 e]] w (NkX w ln lx le hn hx he 0) := by
  subst hlost
  clear hf
  go_enter Tryd.func12, Tryd.ntmps12
  go_wp2_with fail
  obtain ⟨V, hV, z0, z1, z2, z3, BW, sW⟩ := knframe w 28 25 (B : Int) (P : Int) (W : Int) neg A n c e
  rw [hV]
  clear hV sW
  replace hT := hT.on BW
  replace h := h.on BW
  refine (HK.out _ h hs hT).mono ?_
  rintro en w1 ⟨V_rd, v_rd, rfl, rd, b⟩
  replace z0 := z0.on b
  replace z1 := z1.on b
  replace z2 := z2.on b
  replace z3 := z3.on b
  replace hT := hT.on b
  replace h := h.on b
  replace BW := Below.step BW b
  clear b
  have l1 := z3.cells.2.2.2.2.2.2
  obtain ⟨z0c0, z0c1, z0c2, z0f0, z0f1, z0f2, z0l⟩ := z0.cells
  obtain ⟨z1c0, z1c1, z1c2, z1f0, z1f1, z1f2, z1l⟩ := z1.cells
  obtain ⟨z2c0, z2c1, z2c2, z2f0, z2f1, z2f2, z2l⟩ := z2.cells
  obtain ⟨z3c0, z3c1, z3c2, z3f0, z3f1, z3f2, z3l⟩ := z3.cells
  go_upto_region 2 with fail
  clear z0c0 z0c1 z0c2 z0f0 z0f1 z0f2 z0l z1c0 z1c1 z1c2 z1f0 z1f1 z1f2 z1l z2c0 z2c1 z2c2 z2f0 z2f1 z2f2 z2l z3c0 z3c1 z3c2 z3f0 z3f1 z3f2 z3l
  obtain ⟨w2, e_w2⟩ : ∃ w', w1.alloc (nob neg V_rd v_rd v_rd de t false 73) = w' := ⟨_, rfl⟩
  have b : Below w1.heap.size w1 w2 := e_w2 ▸ below_lit _ _
  have hs_w2 : w2.heap.size = w1.heap.size + 1 := e_w2 ▸ size_lit w1 _ rfl
  have zn : NB w2 w1.heap.size 73 neg V_rd v_rd v_rd de t false := e_w2 ▸ NB.made w1 rfl 73 neg V_rd v_rd v_rd de t false
  rw [e_w2]
  clear e_w2
  replace z0 := z0.on b
  replace z1 := z1.on b
  replace z2 := z2.on b
  replace z3 := z3.on b
  replace hT := hT.on b
  replace h := h.on b
  replace rd := rd.on b
  replace BW := Below.step BW b
  clear b
  clear hs_w2
  have lk := res_n_le rd (k := 128) (by omega)
  obtain ⟨z0c0, z0c1, z0c2, z0f0, z0f1, z0f2, z0l⟩ := z0.cells
  obtain ⟨znc0, znc1, znc2, znc3, znc4, znf0, znf1, znf2, znf3, znf4, znl⟩ := zn.cells
  go_wp2_with fail
  refine (HP.out _ _ _).mono ?_
  rintro en w3 ⟨rfl, b⟩
  clear z0c0 z0c1 z0c2 z0f0 z0f1 z0f2 z0l znc0 znc1 znc2 znc3 znc4 znf0 znf1 znf2 znf3 znf4 znl
  replace z0 := z0.on b
  replace z1 := z1.on b
  replace z2 := z2.on b
  replace z3 := z3.on b
  replace hT := hT.on b
  replace h := h.on b
  replace rd := rd.on b
  replace zn := zn.on b
  replace BW := Below.step BW b
  clear b
  obtain ⟨znc0, znc1, znc2, znc3, znc4, znf0, znf1, znf2, znf3, znf4, znl⟩ := zn.cells
  go_wp2_with fail
  refine (dfloor_as (rd.arg (by omega)) (by omega) hT HF.out).mono ?_
  rintro en w4 ⟨V_rl, v_rl, rfl, rl, b⟩
  clear znc0 znc1 znc2 znc3 znc4 znf0 znf1 znf2 znf3 znf4 znl
  replace z0 := z0.on b
  replace z1 := z1.on b
  replace z2 := z2.on b
  replace z3 := z3.on b
  replace hT := hT.on b
  replace h := h.on b
  replace rd := rd.on b
  replace zn := zn.on b
  replace BW := Below.step BW b
  clear b
  have ll := res_n_le rl (k := 128) (by omega)
  have l2 := z3.cells.2.2.2.2.2.2
  obtain ⟨z0c0, z0c1, z0c2, z0f0, z0f1, z0f2, z0l⟩ := z0.cells
  obtain ⟨z1c0, z1c1, z1c2, z1f0, z1f1, z1f2, z1l⟩ := z1.cells
  obtain ⟨z2c0, z2c1, z2c2, z2f0, z2f1, z2f2, z2l⟩ := z2.cells
  obtain ⟨z3c0, z3c1, z3c2, z3f0, z3f1, z3f2, z3l⟩ := z3.cells
  go_upto_region 6 with fail
  clear z0c0 z0c1 z0c2 z0f0 z0f1 z0f2 z0l z1c0 z1c1 z1c2 z1f0 z1f1 z1f2 z1l z2c0 z2c1 z2c2 z2f0 z2f1 z2f2 z2l z3c0 z3c1 z3c2 z3f0 z3f1 z3f2 z3l
  obtain ⟨w5, e_w5⟩ : ∃ w', w4.alloc (dob ln V_rl v_rl v_rl le 25) = w' := ⟨_, rfl⟩
  have b : Below w4.heap.size w4 w5 := e_w5 ▸ below_lit _ _
  have hs_w5 : w5.heap.size = w4.heap.size + 1 := e_w5 ▸ size_lit w4 _ rfl
  have zl : DB w5 w4.heap.size 25 ln V_rl v_rl v_rl le := e_w5 ▸ DB.made w4 rfl 25 ln V_rl v_rl v_rl le
  rw [e_w5]
  clear e_w5
  replace z0 := z0.on b
  replace z1 := z1.on b
  replace z2 := z2.on b
  replace z3 := z3.on b
  replace hT := hT.on b
  replace h := h.on b
  replace rd := rd.on b
  replace zn := zn.on b
  replace rl := rl.on b
  replace BW := Below.step BW b
  clear b
  clear hs_w5
  have nz3b0 : w1.heap.size ≠ w.heap.size + 1 + 1 := by omega
  have mz3b0 : w.heap.size + 1 + 1 ≠ w1.heap.size := by omega
  have nz3b1 : w1.heap.size ≠ w.heap.size + 1 + 1 + 1 := by omega
  have mz3b1 : w.heap.size + 1 + 1 + 1 ≠ w1.heap.size := by omega
  have nz3a0 : w4.heap.size ≠ w.heap.size + 1 + 1 := by omega
  have mz3a0 : w.heap.size + 1 + 1 ≠ w4.heap.size := by omega
  have nz3a1 : w4.heap.size ≠ w.heap.size + 1 + 1 + 1 := by omega
  have mz3a1 : w.heap.size + 1 + 1 + 1 ≠ w4.heap.size := by omega
  obtain ⟨z2c0, z2c1, z2c2, z2f0, z2f1, z2f2, z2l⟩ := z2.cells
  obtain ⟨z3c0, z3c1, z3c2, z3f0, z3f1, z3f2, z3l⟩ := z3.cells
  obtain ⟨znc0, znc1, znc2, znc3, znc4, znf0, znf1, znf2, znf3, znf4, znl⟩ := zn.cells
  obtain ⟨zlc0, zlc1, zlc2, zlf0, zlf1, zlf2, zll⟩ := zl.cells
  go_wp2_with fail
  clear z2c0 z2c1 z2c2 z2f0 z2f1 z2f2 z2l z3c0 z3c1 z3c2 z3f0 z3f1 z3f2 z3l znc0 znc1 znc2 znc3 znc4 znf0 znf1 znf2 znf3 znf4 znl zlc0 zlc1 zlc2 zlf0 zlf1 zlf2 zll
  replace z0 := z0.on ((Below.refl _ _).drew : Below w5.heap.size w5 w5.drew)
  replace z1 := z1.on ((Below.refl _ _).drew : Below w5.heap.size w5 w5.drew)
  replace z2 := z2.on ((Below.refl _ _).drew : Below w5.heap.size w5 w5.drew)
  replace z3 := z3.on ((Below.refl _ _).drew : Below w5.heap.size w5 w5.drew)
  replace hT := hT.on ((Below.refl _ _).drew : Below w5.heap.size w5 w5.drew)
  replace h := h.on ((Below.refl _ _).drew : Below w5.heap.size w5 w5.drew)
  replace rd := rd.on ((Below.refl _ _).drew : Below w5.heap.size w5 w5.drew)
  replace zn := zn.on ((Below.refl _ _).drew : Below w5.heap.size w5 w5.drew)
  replace rl := rl.on ((Below.refl _ _).drew : Below w5.heap.size w5 w5.drew)
  replace zl := zl.on ((Below.refl _ _).drew : Below w5.heap.size w5 w5.drew)
  replace BW := Below.step BW ((Below.refl _ _).drew : Below w5.heap.size w5 w5.drew)
  obtain ⟨z2c0, z2c1, z2c2, z2f0, z2f1, z2f2, z2l⟩ := z2.cells
  obtain ⟨z3c0, z3c1, z3c2, z3f0, z3f1, z3f2, z3l⟩ := z3.cells
  obtain ⟨znc0, znc1, znc2, znc3, znc4, znf0, znf1, znf2, znf3, znf4, znl⟩ := zn.cells
  obtain ⟨zlc0, zlc1, zlc2, zlf0, zlf1, zlf2, zll⟩ := zl.cells
  go_region_with (go_at_call 36; refine (away_as (rl.arg (by omega)) (by omega) hT HA.out).mono ?_; rintro en w6 ⟨V_rh, v_rh, rfl, rh, b⟩; replace z0 := z0.on b; replace z1 := z1.on b; replace z2 := z2.on b; replace z3 := z3.on b; replace hT := hT.on b; replace h := h.on b; replace rd := rd.on b; replace zn := zn.on b; replace rl := rl.on b; replace zl := zl.on b; replace BW := Below.step BW b; clear b; clear z2c0 z2c1 z2c2 z2f0 z2f1 z2f2 z2l z3c0 z3c1 z3c2 z3f0 z3f1 z3f2 z3l znc0 znc1 znc2 znc3 znc4 znf0 znf1 znf2 znf3 znf4 znl zlc0 zlc1 zlc2 zlf0 zlf1 zlf2 zll; obtain ⟨z2c0, z2c1, z2c2, z2f0, z2f1, z2f2, z2l⟩ := z2.cells; obtain ⟨z3c0, z3c1, z3c2, z3f0, z3f1, z3f2, z3l⟩ := z3.cells; obtain ⟨znc0, znc1, znc2, znc3, znc4, znf0, znf1, znf2, znf3, znf4, znl⟩ := zn.cells; obtain ⟨zlc0, zlc1, zlc2, zlf0, zlf1, zlf2, zll⟩ := zl.cells)
  all_goals go_wp2_with fail
  all_goals (
    have y2 := ((z2.put_d ln V_rl v_rl v_rl le).other (s := w.heap.size + 1 + 1 + 1) (by omega) (.bool hn) (.slice V_rh v_rh v_rh) (.int .i64 he))
    have y3 := ((z3.other (s := w.heap.size + 1 + 1) (by omega) (.bool ln) (.slice V_rl v_rl v_rl) (.int .i64 le)).put_d hn V_rh v_rh v_rh he)
    have yl := ((z3.other (s := w.heap.size + 1 + 1) (by omega) (.bool ln) (.slice V_rl v_rl v_rl) (.int .i64 le)).res (z2.res rl (.bool ln) (.slice V_rl v_rl v_rl) (.int .i64 le)) (.bool hn) (.slice V_rh v_rh v_rh) (.int .i64 he))
    have yh := ((z3.other (s := w.heap.size + 1 + 1) (by omega) (.bool ln) (.slice V_rl v_rl v_rl) (.int .i64 le)).res (z2.res rh (.bool ln) (.slice V_rl v_rl v_rl) (.int .i64 le)) (.bool hn) (.slice V_rh v_rh v_rh) (.int .i64 he))
    have yb := (below_put3 (below_put3 BW (show w.heap.size ≤ w.heap.size + 1 + 1 by omega) (.bool ln) (.slice V_rl v_rl v_rl) (.int .i64 le)) (show w.heap.size ≤ w.heap.size + 1 + 1 + 1 by omega) (.bool hn) (.slice V_rh v_rh v_rh) (.int .i64 he))
    obtain ⟨p0, p1, p2, _⟩ := y2.cells
    obtain ⟨r0, r1, r2, _⟩ := y3.cells
    refine bodyPost_ret (v := .tuple #[.agg #[.bool ln, .slice V_rl v_rl v_rl, .int .i64 le], .agg #[.bool hn, .slice V_rh v_rh v_rh, .int .i64 he], .int .i64 0]) (by simp [results, Tryd.results12, go_sem, p0, p1, p2, r0, r1, r2]) rfl ?_
    exact ⟨_, _, _, _, rfl, yl, yh, yb⟩)
end Go.Proofs.YtkjbejdeejpdoaaDoor
