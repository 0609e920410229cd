
/-
  The walk of the law FormatTells.
-/
import Derived.Test.YtflicmdgijghaaaDoorFw
import Derived.Test.YtflicmdgijghaaaDoorFval
import Derived.Test.YtflicmdgijghaaaDoorFopen
namespace Go.Proofs.YtflicmdgijghaaaDoor
open Go.RowKit
set_option linter.unusedVariables false

theorem PartsPost.as {w : World} {x : Nat} {P : Ending → World → Prop} (h : ∀ e w', (∃ A n c, e = .returned (.slice A n c) ∧ (Res w' A n x) ∧ Below w.heap.size w w') → P e w') : ∀ e w', PartsPost w x e w' → P e w' :=
  fun e w' ⟨A, n, c, h1, h2, _, h3⟩ => h e w' ⟨A, n, c, h1, h2, h3⟩
theorem rparts_as {A : Option Addr} {n c x : Nat} {w : World} (h : BR w A n c x) (hn : n ≤ 1000000) :
    Calls Tryd.prog 23 #[.slice A n c] w fun e w' => ∃ A' n' c', e = .returned (.slice A' n' c') ∧ Res w' A' n' x ∧ Below w.heap.size w w' :=
  (rparts_any h hn).mono fun e w' ⟨A, n, c, h1, h2, _, h3⟩ => ⟨A, n, c, h1, h2, h3⟩
set_option maxRecDepth 100000 in
theorem tells_bad (bits : Int) (kb : Int) (neg : Bool) (h1 : bits ≠ 16) (h2 : bits ≠ 32) (h3 : bits ≠ 64) {w : World} (hT : Tab w) (hF : Frm w) :
    Calls Tryd.prog 3 #[.int .i64 bits, .int .u64 kb, .bool neg] w fun e w' => e = .returned (.bool true) ∧ Below w.heap.size w w' := by
  go_enter Tryd.func3, Tryd.ntmps3
  go_wp2_with fail
  refine (awake3_any hT hF).mono ?_
  rintro en w1 ⟨rfl, b⟩
  replace hT := hT.on b
  replace hF := hF.on b
  have BW := b
  clear b
  go_wp2_with fail
  refine (of_bad bits h1 h2 h3 _ hF).mono ?_
  rintro en w2 ⟨rfl, b⟩
  replace hT := hT.on b
  replace hF := hF.on b
  replace BW := Below.step BW b
  clear b
  go_wp2_with fail
  obtain ⟨w3, e_w3⟩ : ∃ w', w2.alloc (.cells #[.int .i64 0, .int .i64 0, .int .i64 0] 25) = w' := ⟨_, rfl⟩
  have b : Below w2.heap.size w2 w3 := e_w3 ▸ below_lit _ _
  have hs_w3 : w3.heap.size = w2.heap.size + 1 := e_w3 ▸ size_lit w2 _ rfl
  have zf : FB w3 w2.heap.size 25 0 0 0 := e_w3 ▸ Box.made_at w2 rfl 25 (notU_int _) (notU_int _) (notU_int _)
  rw [e_w3]
  clear e_w3
  replace hT := hT.on b
  replace hF := hF.on b
  replace BW := Below.step BW b
  clear b
  refine (rof_bad bits h1 h2 h3 _).mono ?_
  rintro en w4 ⟨rfl, b⟩
  replace hT := hT.on b
  replace hF := hF.on b
  replace zf := zf.on b
  replace BW := Below.step BW b
  clear b
  obtain ⟨zfc0, zfc1, zfc2, zff0, zff1, zff2, zfl⟩ := zf.cells
  go_wp2_with fail
  go_ret
  exact ⟨rfl, Below.step BW (below_lit _ _)⟩
set_option maxHeartbeats 8000000 in
set_option maxRecDepth 100000 in
theorem tells_main {B P W M E H : Nat} {low : Int} (hf : Fm B P W M E H low) (kb : Nat) (hb : kb < 18446744073709551616) (neg : Bool) {w : World} (hT : Tab w) (hF : Frm w) :
    Calls Tryd.prog 3 #[.int .i64 (B : Int), .int .u64 (kb : Int), .bool neg] w fun e w' => e = .returned (.bool true) ∧ Below w.heap.size w w' := by
  obtain ⟨b1, b2, b3, b4, b5, b6, b7, b8, b9, b10, b11, b12, b13, b14, b15⟩ := hf.bd
  obtain ⟨s, hs⟩ : ∃ s, kb / H % 2 = s := ⟨_, rfl⟩
  obtain ⟨x, hx⟩ : ∃ x, kb / M % (E + 1) = x := ⟨_, rfl⟩
  obtain ⟨r, hr⟩ : ∃ r, kb % M = r := ⟨_, rfl⟩
  obtain ⟨y, hy⟩ : ∃ y, decide (¬ kb < 2 * H) = y := ⟨_, rfl⟩
  obtain ⟨i, hi⟩ : ∃ i : Int, 2 - (P : Int) - low = i := ⟨_, rfl⟩
  obtain ⟨v, hv⟩ : ∃ v, clsS M E kb = v := ⟨_, rfl⟩
  obtain ⟨t, ht⟩ : ∃ t, decide (kb / H % 2 = 1) = t := ⟨_, rfl⟩
  obtain ⟨⟨⟨vn, vx, ve⟩, err⟩, hval⟩ : ∃ d, valS M E H low kb = d := ⟨_, rfl⟩
  have HS := Lib.hid hs
  have HX := Lib.hid hx
  have HR := Lib.hid hr
  have HY := Lib.hid hy
  have HI := Lib.hid hi
  have HC := Lib.hid hv
  have HT := Lib.hid ht
  have HV := Lib.hid hval
  have HM : Hid (decide (kb < 2 * H) = (!y)) := by rw [← hy]; exact Lib.hid (by by_cases h : kb < 2 * H <;> simp [h])
  have hlv : blen vx ≤ 4096 := by
    have h1 := val_may hf kb (decide (kb / H % 2 = 1))
    unfold valS at hval
    split at hval
    · split at hval
      · simp only [Prod.mk.injEq, D.mk.injEq] at hval
        rw [← hval.1.2.1, blen_zero]; omega
      · simp only [Prod.mk.injEq] at hval
        rw [hval.1] at h1
        exact ((D.may_iff _).1 h1.2).1
    · simp only [Prod.mk.injEq, D.mk.injEq] at hval
      rw [← hval.1.2.1, blen_zero]; omega
  have hs2 : s < 2 := by rw [← hs]; exact Nat.mod_lt _ (by omega)
  have q1 : ((s : Int) == 1) = t := by rw [← ht, hs, Bool.eq_iff_iff]; simp; omega
  obtain ⟨n1, h1⟩ : ∃ n1, sgn H neg (M * E) = n1 := ⟨_, rfl⟩
  obtain ⟨n2, h2⟩ : ∃ n2, sgn H neg (M * E - 1) = n2 := ⟨_, rfl⟩
  obtain ⟨n4, h4⟩ : ∃ n4, sgn H neg 0 = n4 := ⟨_, rfl⟩
  obtain ⟨n5, h5⟩ : ∃ n5, M * E + M / 2 = n5 := ⟨_, rfl⟩
  obtain ⟨n6, h6⟩ : ∃ n6, qtS M H kb = n6 := ⟨_, rfl⟩
  have hME : 1 ≤ M * E := Nat.mul_le_mul (show 1 ≤ M by omega) (show 1 ≤ E by omega)
  have N1 := Lib.hid h1
  have N2 : Hid (sgn H neg (M * E) = n2 + 1) := by
    rw [← h2]
    unfold sgn
    cases neg
    · simp only [Bool.false_eq_true, if_false]; exact Lib.hid (by omega)
    · simp only [if_true]; exact Lib.hid (by omega)
  have N3 := Lib.hid h2
  have N4 := Lib.hid h4
  have N5 := Lib.hid h5
  have N6 := Lib.hid h6
  clear hs hx hr hy hi hv ht hval h1 h2 h4 h5 h6 hME b1
  go_enter Tryd.func3, Tryd.ntmps3
  go_wp2_with fail
  refine (awake3_any hT hF).mono ?_
  rintro en w1 ⟨rfl, b⟩
  replace hT := hT.on b
  replace hF := hF.on b
  have BW := b
  clear b
  go_wp2_with fail
  refine (of_fm hf _ hF).mono ?_
  rintro en w2 ⟨rfl, b⟩
  replace hT := hT.on b
  replace hF := hF.on b
  replace BW := Below.step BW b
  clear b
  go_wp2_with fail
  obtain ⟨w3, e_w3⟩ : ∃ w', w2.alloc (.cells #[.int .i64 (B : Int), .int .i64 (P : Int), .int .i64 (W : Int)] 25) = w' := ⟨_, rfl⟩
  have b : Below w2.heap.size w2 w3 := e_w3 ▸ below_lit _ _
  have hs_w3 : w3.heap.size = w2.heap.size + 1 := e_w3 ▸ size_lit w2 _ rfl
  have zf : FB w3 w2.heap.size 25 (B : Int) (P : Int) (W : Int) := e_w3 ▸ Box.made_at w2 rfl 25 (notU_int _) (notU_int _) (notU_int _)
  rw [e_w3]
  clear e_w3
  replace hT := hT.on b
  replace hF := hF.on b
  replace BW := Below.step BW b
  clear b
  refine (rof_fm hf _).mono ?_
  rintro en w4 ⟨rfl, b⟩
  replace hT := hT.on b
  replace hF := hF.on b
  replace zf := zf.on b
  replace BW := Below.step BW b
  clear b
  obtain ⟨zfc0, zfc1, zfc2, zff0, zff1, zff2, zfl⟩ := zf.cells
  go_wp2_with fail
  clear zfc0 zfc1 zfc2 zff0 zff1 zff2 zfl
  obtain ⟨w5, e_w5⟩ : ∃ w', w4.alloc (.cells #[.int .i64 (B : Int), .int .i64 (P : Int), .int .i64 (W : Int)] 29) = w' := ⟨_, rfl⟩
  have b : Below w4.heap.size w4 w5 := e_w5 ▸ below_lit _ _
  have hs_w5 : w5.heap.size = w4.heap.size + 1 := e_w5 ▸ size_lit w4 _ rfl
  have zr : FB w5 w4.heap.size 29 (B : Int) (P : Int) (W : Int) := e_w5 ▸ Box.made_at w4 rfl 29 (notU_int _) (notU_int _) (notU_int _)
  rw [e_w5]
  clear e_w5
  replace hT := hT.on b
  replace hF := hF.on b
  replace zf := zf.on b
  replace BW := Below.step BW b
  clear b
  obtain ⟨zfc0, zfc1, zfc2, zff0, zff1, zff2, zfl⟩ := zf.cells
  obtain ⟨zrc0, zrc1, zrc2, zrf0, zrf1, zrf2, zrl⟩ := zr.cells
  refine (parts_as hf kb s x r y hb HS.out HX.out HR.out HY.out _).mono ?_
  rintro en w6 ⟨rfl, b⟩
  clear zfc0 zfc1 zfc2 zff0 zff1 zff2 zfl zrc0 zrc1 zrc2 zrf0 zrf1 zrf2 zrl
  replace hT := hT.on b
  replace hF := hF.on b
  replace zf := zf.on b
  replace zr := zr.on b
  replace BW := Below.step BW b
  clear b
  obtain ⟨zfc0, zfc1, zfc2, zff0, zff1, zff2, zfl⟩ := zf.cells
  obtain ⟨zrc0, zrc1, zrc2, zrf0, zrf1, zrf2, zrl⟩ := zr.cells
  go_wp2_with fail
  refine (value_as hf kb hb hT HV.out).mono ?_
  rintro en w7 ⟨V_rv, v_rv, rfl, rv, b⟩
  clear zfc0 zfc1 zfc2 zff0 zff1 zff2 zfl zrc0 zrc1 zrc2 zrf0 zrf1 zrf2 zrl
  replace hT := hT.on b
  replace hF := hF.on b
  replace zf := zf.on b
  replace zr := zr.on b
  replace BW := Below.step BW b
  clear b
  have lv := res_n_le rv (k := 128) hlv
  obtain ⟨zfc0, zfc1, zfc2, zff0, zff1, zff2, zfl⟩ := zf.cells
  obtain ⟨zrc0, zrc1, zrc2, zrf0, zrf1, zrf2, zrl⟩ := zr.cells
  go_wp2_with fail
  clear zfc0 zfc1 zfc2 zff0 zff1 zff2 zfl zrc0 zrc1 zrc2 zrf0 zrf1 zrf2 zrl
  obtain ⟨w8, e_w8⟩ : ∃ w', w7.alloc (dob vn V_rv v_rv v_rv ve 37) = w' := ⟨_, rfl⟩
  have b : Below w7.heap.size w7 w8 := e_w8 ▸ below_lit _ _
  have hs_w8 : w8.heap.size = w7.heap.size + 1 := e_w8 ▸ size_lit w7 _ rfl
  have zv : DB w8 w7.heap.size 37 vn V_rv v_rv v_rv ve := e_w8 ▸ DB.made w7 rfl 37 vn V_rv v_rv v_rv ve
  rw [e_w8]
  clear e_w8
  replace hT := hT.on b
  replace hF := hF.on b
  replace zf := zf.on b
  replace zr := zr.on b
  replace rv := rv.on b
  replace BW := Below.step BW b
  clear b
  refine (rvalue_as hf kb hb HV.out).mono ?_
  rintro en w9 ⟨V_rw, v_rw, c_rw, rfl, rw_, b⟩
  replace hT := hT.on b
  replace hF := hF.on b
  replace zf := zf.on b
  replace zr := zr.on b
  replace rv := rv.on b
  replace zv := zv.on b
  replace BW := Below.step BW b
  clear b
  have lw := rw_.le (k := 100000) (Nat.le_trans hlv (by omega))
  obtain ⟨zfc0, zfc1, zfc2, zff0, zff1, zff2, zfl⟩ := zf.cells
  obtain ⟨zrc0, zrc1, zrc2, zrf0, zrf1, zrf2, zrl⟩ := zr.cells
  obtain ⟨zvc0, zvc1, zvc2, zvf0, zvf1, zvf2, zvl⟩ := zv.cells
  go_wp2_with fail
  clear zfc0 zfc1 zfc2 zff0 zff1 zff2 zfl zrc0 zrc1 zrc2 zrf0 zrf1 zrf2 zrl zvc0 zvc1 zvc2 zvf0 zvf1 zvf2 zvl
  obtain ⟨w10, e_w10⟩ : ∃ w', w9.alloc (dob vn V_rw v_rw c_rw ve 43) = w' := ⟨_, rfl⟩
  have b : Below w9.heap.size w9 w10 := e_w10 ▸ below_lit _ _
  have hs_w10 : w10.heap.size = w9.heap.size + 1 := e_w10 ▸ size_lit w9 _ rfl
  have zw : DB w10 w9.heap.size 43 vn V_rw v_rw c_rw ve := e_w10 ▸ DB.made w9 rfl 43 vn V_rw v_rw c_rw ve
  rw [e_w10]
  clear e_w10
  replace hT := hT.on b
  replace hF := hF.on b
  replace zf := zf.on b
  replace zr := zr.on b
  replace rv := rv.on b
  replace zv := zv.on b
  replace rw_ := rw_.on b
  replace BW := Below.step BW b
  clear b
  try dsimp only [List.append]
  refine region_plan [0, 2, 1, 3, 4, 5, 6, 8, 7, 9, 10, 11, 12, 13, 14, 16, 17, 15, 18, 19, 20, 21, 22, 24, 25, 23, 26, 27, 28, 29, 30, 31, 33, 34, 32, 35, 36, 37, 38, 39, 40, 41, 42, 43, 44, 45, 46, 47, 48, 49, 50, 51, 52, 53, 54, 55, 56, 57, 58, 59, 60, 61, 62, 63, 64, 65, 66, 68, 69, 67, 70, 71, 72, 73, 74, 75, 77, 78, 76, 79, 80, 81, 82, 83, 84, 86, 87, 85, 88, 89, 90, 91, 92, 94, 93, 95, 96, 97, 98, 99, 100, 102, 103, 101, 104, 105, 106, 107] (by kernel_rfl) (by kernel_rfl) (by kernel_rfl) (by kernel_rfl) (by kernel_rfl) ?_
  dsimp only [pick, nth]
  replace hT := hT.on ((Below.refl _ _).drew : Below w10.heap.size w10 w10.drew)
  replace hF := hF.on ((Below.refl _ _).drew : Below w10.heap.size w10 w10.drew)
  replace zf := zf.on ((Below.refl _ _).drew : Below w10.heap.size w10 w10.drew)
  replace zr := zr.on ((Below.refl _ _).drew : Below w10.heap.size w10 w10.drew)
  replace rv := rv.on ((Below.refl _ _).drew : Below w10.heap.size w10 w10.drew)
  replace zv := zv.on ((Below.refl _ _).drew : Below w10.heap.size w10 w10.drew)
  replace rw_ := rw_.on ((Below.refl _ _).drew : Below w10.heap.size w10 w10.drew)
  replace zw := zw.on ((Below.refl _ _).drew : Below w10.heap.size w10 w10.drew)
  replace BW := Below.step BW ((Below.refl _ _).drew : Below w10.heap.size w10 w10.drew)
  obtain ⟨w11, e_w11⟩ : ∃ w', w10.drew = w' := ⟨_, rfl⟩
  rw [e_w11] at hT hF zf zr rv zv rw_ zw BW ⊢
  clear e_w11
  have lf0 : ∀ s : Wd w11, s.w.cell? ⟨w2.heap.size, 0, none⟩ = some (.int .i64 (B : Int)) := fun s => (zf.on s.below).cells.1
  have lf1 : ∀ s : Wd w11, s.w.cell? ⟨w2.heap.size, 1, none⟩ = some (.int .i64 (P : Int)) := fun s => (zf.on s.below).cells.2.1
  have lf2 : ∀ s : Wd w11, s.w.cell? ⟨w2.heap.size, 2, none⟩ = some (.int .i64 (W : Int)) := fun s => (zf.on s.below).cells.2.2.1
  have lf3 : ∀ s : Wd w11, s.w.cell? ⟨w4.heap.size, 0, none⟩ = some (.int .i64 (B : Int)) := fun s => (zr.on s.below).cells.1
  have lf4 : ∀ s : Wd w11, s.w.cell? ⟨w4.heap.size, 1, none⟩ = some (.int .i64 (P : Int)) := fun s => (zr.on s.below).cells.2.1
  have lf5 : ∀ s : Wd w11, s.w.cell? ⟨w4.heap.size, 2, none⟩ = some (.int .i64 (W : Int)) := fun s => (zr.on s.below).cells.2.2.1
  have lf6 : ∀ s : Wd w11, s.w.cell? ⟨w7.heap.size, 0, none⟩ = some (.bool vn) := fun s => (zv.on s.below).cells.1
  have lf7 : ∀ s : Wd w11, s.w.cell? ⟨w7.heap.size, 1, none⟩ = some (.slice V_rv v_rv v_rv) := fun s => (zv.on s.below).cells.2.1
  have lf8 : ∀ s : Wd w11, s.w.cell? ⟨w7.heap.size, 2, none⟩ = some (.int .i64 ve) := fun s => (zv.on s.below).cells.2.2.1
  have lf9 : ∀ s : Wd w11, s.w.cell? ⟨w9.heap.size, 0, none⟩ = some (.bool vn) := fun s => (zw.on s.below).cells.1
  have lf10 : ∀ s : Wd w11, s.w.cell? ⟨w9.heap.size, 1, none⟩ = some (.slice V_rw v_rw c_rw) := fun s => (zw.on s.below).cells.2.1
  have lf11 : ∀ s : Wd w11, s.w.cell? ⟨w9.heap.size, 2, none⟩ = some (.int .i64 ve) := fun s => (zw.on s.below).cells.2.2.1
  refine lex_plain 2 (by kernel_rfl) ?_
  dsimp only [List.take, List.drop]
  repeat go_big_quiet_step (fail)
  refine wpQuiet_nil ?_
  clear lf0 lf1 lf2 lf3 lf4 lf5 lf6 lf7 lf8 lf9 lf10 lf11
  refine lex_call (by kernel_rfl) (by kernel_rfl) (fun w12 b K hK => ?_)
  replace hT := hT.on b
  replace hF := hF.on b
  replace zf := zf.on b
  replace zr := zr.on b
  replace rv := rv.on b
  replace zv := zv.on b
  replace rw_ := rw_.on b
  replace zw := zw.on b
  replace BW := Below.step BW b
  clear b
  go_simp
  refine (bias_as hf i HI.out _).mono ?_
  rintro en w13 ⟨rfl, b⟩
  dsimp only
  refine hK _ _ b ?_
  clear hK K
  replace hT := hT.on b
  replace hF := hF.on b
  replace zf := zf.on b
  replace zr := zr.on b
  replace rv := rv.on b
  replace zv := zv.on b
  replace rw_ := rw_.on b
  replace zw := zw.on b
  replace BW := Below.step BW b
  clear b
  refine lex_call (by kernel_rfl) (by kernel_rfl) (fun w14 b K hK => ?_)
  replace hT := hT.on b
  replace hF := hF.on b
  replace zf := zf.on b
  replace zr := zr.on b
  replace rv := rv.on b
  replace zv := zv.on b
  replace rw_ := rw_.on b
  replace zw := zw.on b
  replace BW := Below.step BW b
  clear b
  go_simp
  refine (rbias_as hf i HI.out _).mono ?_
  rintro en w15 ⟨rfl, b⟩
  dsimp only
  refine hK _ _ b ?_
  clear hK K
  replace hT := hT.on b
  replace hF := hF.on b
  replace zf := zf.on b
  replace zr := zr.on b
  replace rv := rv.on b
  replace zv := zv.on b
  replace rw_ := rw_.on b
  replace zw := zw.on b
  replace BW := Below.step BW b
  clear b
  have lf0 : ∀ s : Wd w15, s.w.cell? ⟨w2.heap.size, 0, none⟩ = some (.int .i64 (B : Int)) := fun s => (zf.on s.below).cells.1
  have lf1 : ∀ s : Wd w15, s.w.cell? ⟨w2.heap.size, 1, none⟩ = some (.int .i64 (P : Int)) := fun s => (zf.on s.below).cells.2.1
  have lf2 : ∀ s : Wd w15, s.w.cell? ⟨w2.heap.size, 2, none⟩ = some (.int .i64 (W : Int)) := fun s => (zf.on s.below).cells.2.2.1
  have lf3 : ∀ s : Wd w15, s.w.cell? ⟨w4.heap.size, 0, none⟩ = some (.int .i64 (B : Int)) := fun s => (zr.on s.below).cells.1
  have lf4 : ∀ s : Wd w15, s.w.cell? ⟨w4.heap.size, 1, none⟩ = some (.int .i64 (P : Int)) := fun s => (zr.on s.below).cells.2.1
  have lf5 : ∀ s : Wd w15, s.w.cell? ⟨w4.heap.size, 2, none⟩ = some (.int .i64 (W : Int)) := fun s => (zr.on s.below).cells.2.2.1
  have lf6 : ∀ s : Wd w15, s.w.cell? ⟨w7.heap.size, 0, none⟩ = some (.bool vn) := fun s => (zv.on s.below).cells.1
  have lf7 : ∀ s : Wd w15, s.w.cell? ⟨w7.heap.size, 1, none⟩ = some (.slice V_rv v_rv v_rv) := fun s => (zv.on s.below).cells.2.1
  have lf8 : ∀ s : Wd w15, s.w.cell? ⟨w7.heap.size, 2, none⟩ = some (.int .i64 ve) := fun s => (zv.on s.below).cells.2.2.1
  have lf9 : ∀ s : Wd w15, s.w.cell? ⟨w9.heap.size, 0, none⟩ = some (.bool vn) := fun s => (zw.on s.below).cells.1
  have lf10 : ∀ s : Wd w15, s.w.cell? ⟨w9.heap.size, 1, none⟩ = some (.slice V_rw v_rw c_rw) := fun s => (zw.on s.below).cells.2.1
  have lf11 : ∀ s : Wd w15, s.w.cell? ⟨w9.heap.size, 2, none⟩ = some (.int .i64 ve) := fun s => (zw.on s.below).cells.2.2.1
  refine lex_plain 4 (by kernel_rfl) ?_
  dsimp only [List.take, List.drop]
  repeat go_big_quiet_step (fail)
  refine wpQuiet_nil ?_
  clear lf0 lf1 lf2 lf3 lf4 lf5 lf6 lf7 lf8 lf9 lf10 lf11
  refine lex_call (by kernel_rfl) (by kernel_rfl) (fun w16 b K hK => ?_)
  replace hT := hT.on b
  replace hF := hF.on b
  replace zf := zf.on b
  replace zr := zr.on b
  replace rv := rv.on b
  replace zv := zv.on b
  replace rw_ := rw_.on b
  replace zw := zw.on b
  replace BW := Below.step BW b
  clear b
  go_simp
  refine (flow_as hf low rfl _).mono ?_
  rintro en w17 ⟨rfl, b⟩
  dsimp only
  refine hK _ _ b ?_
  clear hK K
  replace hT := hT.on b
  replace hF := hF.on b
  replace zf := zf.on b
  replace zr := zr.on b
  replace rv := rv.on b
  replace zv := zv.on b
  replace rw_ := rw_.on b
  replace zw := zw.on b
  replace BW := Below.step BW b
  clear b
  refine lex_call (by kernel_rfl) (by kernel_rfl) (fun w18 b K hK => ?_)
  replace hT := hT.on b
  replace hF := hF.on b
  replace zf := zf.on b
  replace zr := zr.on b
  replace rv := rv.on b
  replace zv := zv.on b
  replace rw_ := rw_.on b
  replace zw := zw.on b
  replace BW := Below.step BW b
  clear b
  go_simp
  refine (rlow_as hf low rfl _).mono ?_
  rintro en w19 ⟨rfl, b⟩
  dsimp only
  refine hK _ _ b ?_
  clear hK K
  replace hT := hT.on b
  replace hF := hF.on b
  replace zf := zf.on b
  replace zr := zr.on b
  replace rv := rv.on b
  replace zv := zv.on b
  replace rw_ := rw_.on b
  replace zw := zw.on b
  replace BW := Below.step BW b
  clear b
  have lf0 : ∀ s : Wd w19, s.w.cell? ⟨w2.heap.size, 0, none⟩ = some (.int .i64 (B : Int)) := fun s => (zf.on s.below).cells.1
  have lf1 : ∀ s : Wd w19, s.w.cell? ⟨w2.heap.size, 1, none⟩ = some (.int .i64 (P : Int)) := fun s => (zf.on s.below).cells.2.1
  have lf2 : ∀ s : Wd w19, s.w.cell? ⟨w2.heap.size, 2, none⟩ = some (.int .i64 (W : Int)) := fun s => (zf.on s.below).cells.2.2.1
  have lf3 : ∀ s : Wd w19, s.w.cell? ⟨w4.heap.size, 0, none⟩ = some (.int .i64 (B : Int)) := fun s => (zr.on s.below).cells.1
  have lf4 : ∀ s : Wd w19, s.w.cell? ⟨w4.heap.size, 1, none⟩ = some (.int .i64 (P : Int)) := fun s => (zr.on s.below).cells.2.1
  have lf5 : ∀ s : Wd w19, s.w.cell? ⟨w4.heap.size, 2, none⟩ = some (.int .i64 (W : Int)) := fun s => (zr.on s.below).cells.2.2.1
  have lf6 : ∀ s : Wd w19, s.w.cell? ⟨w7.heap.size, 0, none⟩ = some (.bool vn) := fun s => (zv.on s.below).cells.1
  have lf7 : ∀ s : Wd w19, s.w.cell? ⟨w7.heap.size, 1, none⟩ = some (.slice V_rv v_rv v_rv) := fun s => (zv.on s.below).cells.2.1
  have lf8 : ∀ s : Wd w19, s.w.cell? ⟨w7.heap.size, 2, none⟩ = some (.int .i64 ve) := fun s => (zv.on s.below).cells.2.2.1
  have lf9 : ∀ s : Wd w19, s.w.cell? ⟨w9.heap.size, 0, none⟩ = some (.bool vn) := fun s => (zw.on s.below).cells.1
  have lf10 : ∀ s : Wd w19, s.w.cell? ⟨w9.heap.size, 1, none⟩ = some (.slice V_rw v_rw c_rw) := fun s => (zw.on s.below).cells.2.1
  have lf11 : ∀ s : Wd w19, s.w.cell? ⟨w9.heap.size, 2, none⟩ = some (.int .i64 ve) := fun s => (zw.on s.below).cells.2.2.1
  refine lex_plain 7 (by kernel_rfl) ?_
  dsimp only [List.take, List.drop]
  repeat go_big_quiet_step (fail)
  refine wpQuiet_nil ?_
  clear lf0 lf1 lf2 lf3 lf4 lf5 lf6 lf7 lf8 lf9 lf10 lf11
  refine lex_call (by kernel_rfl) (by kernel_rfl) (fun w20 b K hK => ?_)
  replace hT := hT.on b
  replace hF := hF.on b
  replace zf := zf.on b
  replace zr := zr.on b
  replace rv := rv.on b
  replace zv := zv.on b
  replace rw_ := rw_.on b
  replace zw := zw.on b
  replace BW := Below.step BW b
  clear b
  go_simp
  refine (fmay_as hf kb hb (!y) HM.out _).mono ?_
  rintro en w21 ⟨rfl, b⟩
  dsimp only
  refine hK _ _ b ?_
  clear hK K
  replace hT := hT.on b
  replace hF := hF.on b
  replace zf := zf.on b
  replace zr := zr.on b
  replace rv := rv.on b
  replace zv := zv.on b
  replace rw_ := rw_.on b
  replace zw := zw.on b
  replace BW := Below.step BW b
  clear b
  have lf0 : ∀ s : Wd w21, s.w.cell? ⟨w2.heap.size, 0, none⟩ = some (.int .i64 (B : Int)) := fun s => (zf.on s.below).cells.1
  have lf1 : ∀ s : Wd w21, s.w.cell? ⟨w2.heap.size, 1, none⟩ = some (.int .i64 (P : Int)) := fun s => (zf.on s.below).cells.2.1
  have lf2 : ∀ s : Wd w21, s.w.cell? ⟨w2.heap.size, 2, none⟩ = some (.int .i64 (W : Int)) := fun s => (zf.on s.below).cells.2.2.1
  have lf3 : ∀ s : Wd w21, s.w.cell? ⟨w4.heap.size, 0, none⟩ = some (.int .i64 (B : Int)) := fun s => (zr.on s.below).cells.1
  have lf4 : ∀ s : Wd w21, s.w.cell? ⟨w4.heap.size, 1, none⟩ = some (.int .i64 (P : Int)) := fun s => (zr.on s.below).cells.2.1
  have lf5 : ∀ s : Wd w21, s.w.cell? ⟨w4.heap.size, 2, none⟩ = some (.int .i64 (W : Int)) := fun s => (zr.on s.below).cells.2.2.1
  have lf6 : ∀ s : Wd w21, s.w.cell? ⟨w7.heap.size, 0, none⟩ = some (.bool vn) := fun s => (zv.on s.below).cells.1
  have lf7 : ∀ s : Wd w21, s.w.cell? ⟨w7.heap.size, 1, none⟩ = some (.slice V_rv v_rv v_rv) := fun s => (zv.on s.below).cells.2.1
  have lf8 : ∀ s : Wd w21, s.w.cell? ⟨w7.heap.size, 2, none⟩ = some (.int .i64 ve) := fun s => (zv.on s.below).cells.2.2.1
  have lf9 : ∀ s : Wd w21, s.w.cell? ⟨w9.heap.size, 0, none⟩ = some (.bool vn) := fun s => (zw.on s.below).cells.1
  have lf10 : ∀ s : Wd w21, s.w.cell? ⟨w9.heap.size, 1, none⟩ = some (.slice V_rw v_rw c_rw) := fun s => (zw.on s.below).cells.2.1
  have lf11 : ∀ s : Wd w21, s.w.cell? ⟨w9.heap.size, 2, none⟩ = some (.int .i64 ve) := fun s => (zw.on s.below).cells.2.2.1
  refine lex_plain 7 (by kernel_rfl) ?_
  dsimp only [List.take, List.drop]
  repeat go_big_quiet_step (fail)
  refine wpQuiet_nil ?_
  clear lf0 lf1 lf2 lf3 lf4 lf5 lf6 lf7 lf8 lf9 lf10 lf11
  refine lex_call (by kernel_rfl) (by kernel_rfl) (fun w22 b K hK => ?_)
  replace hT := hT.on b
  replace hF := hF.on b
  replace zf := zf.on b
  replace zr := zr.on b
  replace rv := rv.on b
  replace zv := zv.on b
  replace rw_ := rw_.on b
  replace zw := zw.on b
  replace BW := Below.step BW b
  clear b
  go_simp
  refine (class_as hf kb v hb HC.out _).mono ?_
  rintro en w23 ⟨rfl, b⟩
  dsimp only
  refine hK _ _ b ?_
  clear hK K
  replace hT := hT.on b
  replace hF := hF.on b
  replace zf := zf.on b
  replace zr := zr.on b
  replace rv := rv.on b
  replace zv := zv.on b
  replace rw_ := rw_.on b
  replace zw := zw.on b
  replace BW := Below.step BW b
  clear b
  refine lex_call (by kernel_rfl) (by kernel_rfl) (fun w24 b K hK => ?_)
  replace hT := hT.on b
  replace hF := hF.on b
  replace zf := zf.on b
  replace zr := zr.on b
  replace rv := rv.on b
  replace zv := zv.on b
  replace rw_ := rw_.on b
  replace zw := zw.on b
  replace BW := Below.step BW b
  clear b
  go_simp
  refine (rclass_as hf kb v hb HC.out _).mono ?_
  rintro en w25 ⟨rfl, b⟩
  dsimp only
  refine hK _ _ b ?_
  clear hK K
  replace hT := hT.on b
  replace hF := hF.on b
  replace zf := zf.on b
  replace zr := zr.on b
  replace rv := rv.on b
  replace zv := zv.on b
  replace rw_ := rw_.on b
  replace zw := zw.on b
  replace BW := Below.step BW b
  clear b
  have lf0 : ∀ s : Wd w25, s.w.cell? ⟨w2.heap.size, 0, none⟩ = some (.int .i64 (B : Int)) := fun s => (zf.on s.below).cells.1
  have lf1 : ∀ s : Wd w25, s.w.cell? ⟨w2.heap.size, 1, none⟩ = some (.int .i64 (P : Int)) := fun s => (zf.on s.below).cells.2.1
  have lf2 : ∀ s : Wd w25, s.w.cell? ⟨w2.heap.size, 2, none⟩ = some (.int .i64 (W : Int)) := fun s => (zf.on s.below).cells.2.2.1
  have lf3 : ∀ s : Wd w25, s.w.cell? ⟨w4.heap.size, 0, none⟩ = some (.int .i64 (B : Int)) := fun s => (zr.on s.below).cells.1
  have lf4 : ∀ s : Wd w25, s.w.cell? ⟨w4.heap.size, 1, none⟩ = some (.int .i64 (P : Int)) := fun s => (zr.on s.below).cells.2.1
  have lf5 : ∀ s : Wd w25, s.w.cell? ⟨w4.heap.size, 2, none⟩ = some (.int .i64 (W : Int)) := fun s => (zr.on s.below).cells.2.2.1
  have lf6 : ∀ s : Wd w25, s.w.cell? ⟨w7.heap.size, 0, none⟩ = some (.bool vn) := fun s => (zv.on s.below).cells.1
  have lf7 : ∀ s : Wd w25, s.w.cell? ⟨w7.heap.size, 1, none⟩ = some (.slice V_rv v_rv v_rv) := fun s => (zv.on s.below).cells.2.1
  have lf8 : ∀ s : Wd w25, s.w.cell? ⟨w7.heap.size, 2, none⟩ = some (.int .i64 ve) := fun s => (zv.on s.below).cells.2.2.1
  have lf9 : ∀ s : Wd w25, s.w.cell? ⟨w9.heap.size, 0, none⟩ = some (.bool vn) := fun s => (zw.on s.below).cells.1
  have lf10 : ∀ s : Wd w25, s.w.cell? ⟨w9.heap.size, 1, none⟩ = some (.slice V_rw v_rw c_rw) := fun s => (zw.on s.below).cells.2.1
  have lf11 : ∀ s : Wd w25, s.w.cell? ⟨w9.heap.size, 2, none⟩ = some (.int .i64 ve) := fun s => (zw.on s.below).cells.2.2.1
  refine lex_plain 7 (by kernel_rfl) ?_
  dsimp only [List.take, List.drop]
  repeat go_big_quiet_step (fail)
  refine wpQuiet_nil ?_
  clear lf0 lf1 lf2 lf3 lf4 lf5 lf6 lf7 lf8 lf9 lf10 lf11
  refine lex_call (by kernel_rfl) (by kernel_rfl) (fun w26 b K hK => ?_)
  replace hT := hT.on b
  replace hF := hF.on b
  replace zf := zf.on b
  replace zr := zr.on b
  replace rv := rv.on b
  replace zv := zv.on b
  replace rw_ := rw_.on b
  replace zw := zw.on b
  replace BW := Below.step BW b
  clear b
  go_simp
  refine (fneg_as hf kb hb t HT.out _).mono ?_
  rintro en w27 ⟨rfl, b⟩
  dsimp only
  refine hK _ _ b ?_
  clear hK K
  replace hT := hT.on b
  replace hF := hF.on b
  replace zf := zf.on b
  replace zr := zr.on b
  replace rv := rv.on b
  replace zv := zv.on b
  replace rw_ := rw_.on b
  replace zw := zw.on b
  replace BW := Below.step BW b
  clear b
  have lf0 : ∀ s : Wd w27, s.w.cell? ⟨w2.heap.size, 0, none⟩ = some (.int .i64 (B : Int)) := fun s => (zf.on s.below).cells.1
  have lf1 : ∀ s : Wd w27, s.w.cell? ⟨w2.heap.size, 1, none⟩ = some (.int .i64 (P : Int)) := fun s => (zf.on s.below).cells.2.1
  have lf2 : ∀ s : Wd w27, s.w.cell? ⟨w2.heap.size, 2, none⟩ = some (.int .i64 (W : Int)) := fun s => (zf.on s.below).cells.2.2.1
  have lf3 : ∀ s : Wd w27, s.w.cell? ⟨w4.heap.size, 0, none⟩ = some (.int .i64 (B : Int)) := fun s => (zr.on s.below).cells.1
  have lf4 : ∀ s : Wd w27, s.w.cell? ⟨w4.heap.size, 1, none⟩ = some (.int .i64 (P : Int)) := fun s => (zr.on s.below).cells.2.1
  have lf5 : ∀ s : Wd w27, s.w.cell? ⟨w4.heap.size, 2, none⟩ = some (.int .i64 (W : Int)) := fun s => (zr.on s.below).cells.2.2.1
  have lf6 : ∀ s : Wd w27, s.w.cell? ⟨w7.heap.size, 0, none⟩ = some (.bool vn) := fun s => (zv.on s.below).cells.1
  have lf7 : ∀ s : Wd w27, s.w.cell? ⟨w7.heap.size, 1, none⟩ = some (.slice V_rv v_rv v_rv) := fun s => (zv.on s.below).cells.2.1
  have lf8 : ∀ s : Wd w27, s.w.cell? ⟨w7.heap.size, 2, none⟩ = some (.int .i64 ve) := fun s => (zv.on s.below).cells.2.2.1
  have lf9 : ∀ s : Wd w27, s.w.cell? ⟨w9.heap.size, 0, none⟩ = some (.bool vn) := fun s => (zw.on s.below).cells.1
  have lf10 : ∀ s : Wd w27, s.w.cell? ⟨w9.heap.size, 1, none⟩ = some (.slice V_rw v_rw c_rw) := fun s => (zw.on s.below).cells.2.1
  have lf11 : ∀ s : Wd w27, s.w.cell? ⟨w9.heap.size, 2, none⟩ = some (.int .i64 ve) := fun s => (zw.on s.below).cells.2.2.1
  refine lex_plain 26 (by kernel_rfl) ?_
  dsimp only [List.take, List.drop]
  repeat go_big_quiet_step (fail)
  refine wpQuiet_nil ?_
  clear lf0 lf1 lf2 lf3 lf4 lf5 lf6 lf7 lf8 lf9 lf10 lf11
  refine lex_call (by kernel_rfl) (by kernel_rfl) (fun w28 b K hK => ?_)
  replace hT := hT.on b
  replace hF := hF.on b
  replace zf := zf.on b
  replace zr := zr.on b
  replace rv := rv.on b
  replace zv := zv.on b
  replace rw_ := rw_.on b
  replace zw := zw.on b
  replace BW := Below.step BW b
  clear b
  go_simp
  refine (rparts_as rw_ (by omega)).mono ?_
  rintro en w29 ⟨V_rp, v_rp, c_rp, rfl, rp, b⟩
  dsimp only
  refine hK _ _ b ?_
  clear hK K
  replace hT := hT.on b
  replace hF := hF.on b
  replace zf := zf.on b
  replace zr := zr.on b
  replace rv := rv.on b
  replace zv := zv.on b
  replace rw_ := rw_.on b
  replace zw := zw.on b
  replace BW := Below.step BW b
  clear b
  have lp := res_n_le rp (k := 128) hlv
  refine lex_call (by kernel_rfl) (by kernel_rfl) (fun w30 b K hK => ?_)
  replace hT := hT.on b
  replace hF := hF.on b
  replace zf := zf.on b
  replace zr := zr.on b
  replace rv := rv.on b
  replace zv := zv.on b
  replace rw_ := rw_.on b
  replace zw := zw.on b
  replace rp := rp.on b
  replace BW := Below.step BW b
  clear b
  go_simp
  refine (same_res rv rp (by omega) (by omega)).mono ?_
  rintro en w31 ⟨rfl, b⟩
  dsimp only
  refine hK _ _ b ?_
  clear hK K
  replace hT := hT.on b
  replace hF := hF.on b
  replace zf := zf.on b
  replace zr := zr.on b
  replace rv := rv.on b
  replace zv := zv.on b
  replace rw_ := rw_.on b
  replace zw := zw.on b
  replace rp := rp.on b
  replace BW := Below.step BW b
  clear b
  have lf0 : ∀ s : Wd w31, s.w.cell? ⟨w2.heap.size, 0, none⟩ = some (.int .i64 (B : Int)) := fun s => (zf.on s.below).cells.1
  have lf1 : ∀ s : Wd w31, s.w.cell? ⟨w2.heap.size, 1, none⟩ = some (.int .i64 (P : Int)) := fun s => (zf.on s.below).cells.2.1
  have lf2 : ∀ s : Wd w31, s.w.cell? ⟨w2.heap.size, 2, none⟩ = some (.int .i64 (W : Int)) := fun s => (zf.on s.below).cells.2.2.1
  have lf3 : ∀ s : Wd w31, s.w.cell? ⟨w4.heap.size, 0, none⟩ = some (.int .i64 (B : Int)) := fun s => (zr.on s.below).cells.1
  have lf4 : ∀ s : Wd w31, s.w.cell? ⟨w4.heap.size, 1, none⟩ = some (.int .i64 (P : Int)) := fun s => (zr.on s.below).cells.2.1
  have lf5 : ∀ s : Wd w31, s.w.cell? ⟨w4.heap.size, 2, none⟩ = some (.int .i64 (W : Int)) := fun s => (zr.on s.below).cells.2.2.1
  have lf6 : ∀ s : Wd w31, s.w.cell? ⟨w7.heap.size, 0, none⟩ = some (.bool vn) := fun s => (zv.on s.below).cells.1
  have lf7 : ∀ s : Wd w31, s.w.cell? ⟨w7.heap.size, 1, none⟩ = some (.slice V_rv v_rv v_rv) := fun s => (zv.on s.below).cells.2.1
  have lf8 : ∀ s : Wd w31, s.w.cell? ⟨w7.heap.size, 2, none⟩ = some (.int .i64 ve) := fun s => (zv.on s.below).cells.2.2.1
  have lf9 : ∀ s : Wd w31, s.w.cell? ⟨w9.heap.size, 0, none⟩ = some (.bool vn) := fun s => (zw.on s.below).cells.1
  have lf10 : ∀ s : Wd w31, s.w.cell? ⟨w9.heap.size, 1, none⟩ = some (.slice V_rw v_rw c_rw) := fun s => (zw.on s.below).cells.2.1
  have lf11 : ∀ s : Wd w31, s.w.cell? ⟨w9.heap.size, 2, none⟩ = some (.int .i64 ve) := fun s => (zw.on s.below).cells.2.2.1
  refine lex_plain 6 (by kernel_rfl) ?_
  dsimp only [List.take, List.drop]
  repeat go_big_quiet_step (fail)
  refine wpQuiet_nil ?_
  clear lf0 lf1 lf2 lf3 lf4 lf5 lf6 lf7 lf8 lf9 lf10 lf11
  refine lex_call (by kernel_rfl) (by kernel_rfl) (fun w32 b K hK => ?_)
  replace hT := hT.on b
  replace hF := hF.on b
  replace zf := zf.on b
  replace zr := zr.on b
  replace rv := rv.on b
  replace zv := zv.on b
  replace rw_ := rw_.on b
  replace zw := zw.on b
  replace rp := rp.on b
  replace BW := Below.step BW b
  clear b
  go_simp
  refine (infinite_as hf neg n1 N1.out _).mono ?_
  rintro en w33 ⟨rfl, b⟩
  dsimp only
  refine hK _ _ b ?_
  clear hK K
  replace hT := hT.on b
  replace hF := hF.on b
  replace zf := zf.on b
  replace zr := zr.on b
  replace rv := rv.on b
  replace zv := zv.on b
  replace rw_ := rw_.on b
  replace zw := zw.on b
  replace rp := rp.on b
  replace BW := Below.step BW b
  clear b
  refine lex_call (by kernel_rfl) (by kernel_rfl) (fun w34 b K hK => ?_)
  replace hT := hT.on b
  replace hF := hF.on b
  replace zf := zf.on b
  replace zr := zr.on b
  replace rv := rv.on b
  replace zv := zv.on b
  replace rw_ := rw_.on b
  replace zw := zw.on b
  replace rp := rp.on b
  replace BW := Below.step BW b
  clear b
  go_simp
  refine (rinfinite_as hf neg n1 N1.out _).mono ?_
  rintro en w35 ⟨rfl, b⟩
  dsimp only
  refine hK _ _ b ?_
  clear hK K
  replace hT := hT.on b
  replace hF := hF.on b
  replace zf := zf.on b
  replace zr := zr.on b
  replace rv := rv.on b
  replace zv := zv.on b
  replace rw_ := rw_.on b
  replace zw := zw.on b
  replace rp := rp.on b
  replace BW := Below.step BW b
  clear b
  have lf0 : ∀ s : Wd w35, s.w.cell? ⟨w2.heap.size, 0, none⟩ = some (.int .i64 (B : Int)) := fun s => (zf.on s.below).cells.1
  have lf1 : ∀ s : Wd w35, s.w.cell? ⟨w2.heap.size, 1, none⟩ = some (.int .i64 (P : Int)) := fun s => (zf.on s.below).cells.2.1
  have lf2 : ∀ s : Wd w35, s.w.cell? ⟨w2.heap.size, 2, none⟩ = some (.int .i64 (W : Int)) := fun s => (zf.on s.below).cells.2.2.1
  have lf3 : ∀ s : Wd w35, s.w.cell? ⟨w4.heap.size, 0, none⟩ = some (.int .i64 (B : Int)) := fun s => (zr.on s.below).cells.1
  have lf4 : ∀ s : Wd w35, s.w.cell? ⟨w4.heap.size, 1, none⟩ = some (.int .i64 (P : Int)) := fun s => (zr.on s.below).cells.2.1
  have lf5 : ∀ s : Wd w35, s.w.cell? ⟨w4.heap.size, 2, none⟩ = some (.int .i64 (W : Int)) := fun s => (zr.on s.below).cells.2.2.1
  have lf6 : ∀ s : Wd w35, s.w.cell? ⟨w7.heap.size, 0, none⟩ = some (.bool vn) := fun s => (zv.on s.below).cells.1
  have lf7 : ∀ s : Wd w35, s.w.cell? ⟨w7.heap.size, 1, none⟩ = some (.slice V_rv v_rv v_rv) := fun s => (zv.on s.below).cells.2.1
  have lf8 : ∀ s : Wd w35, s.w.cell? ⟨w7.heap.size, 2, none⟩ = some (.int .i64 ve) := fun s => (zv.on s.below).cells.2.2.1
  have lf9 : ∀ s : Wd w35, s.w.cell? ⟨w9.heap.size, 0, none⟩ = some (.bool vn) := fun s => (zw.on s.below).cells.1
  have lf10 : ∀ s : Wd w35, s.w.cell? ⟨w9.heap.size, 1, none⟩ = some (.slice V_rw v_rw c_rw) := fun s => (zw.on s.below).cells.2.1
  have lf11 : ∀ s : Wd w35, s.w.cell? ⟨w9.heap.size, 2, none⟩ = some (.int .i64 ve) := fun s => (zw.on s.below).cells.2.2.1
  refine lex_plain 7 (by kernel_rfl) ?_
  dsimp only [List.take, List.drop]
  repeat go_big_quiet_step (fail)
  refine wpQuiet_nil ?_
  clear lf0 lf1 lf2 lf3 lf4 lf5 lf6 lf7 lf8 lf9 lf10 lf11
  refine lex_call (by kernel_rfl) (by kernel_rfl) (fun w36 b K hK => ?_)
  replace hT := hT.on b
  replace hF := hF.on b
  replace zf := zf.on b
  replace zr := zr.on b
  replace rv := rv.on b
  replace zv := zv.on b
  replace rw_ := rw_.on b
  replace zw := zw.on b
  replace rp := rp.on b
  replace BW := Below.step BW b
  clear b
  go_simp
  refine (greatest_as hf neg n2 N2.out _).mono ?_
  rintro en w37 ⟨rfl, b⟩
  dsimp only
  refine hK _ _ b ?_
  clear hK K
  replace hT := hT.on b
  replace hF := hF.on b
  replace zf := zf.on b
  replace zr := zr.on b
  replace rv := rv.on b
  replace zv := zv.on b
  replace rw_ := rw_.on b
  replace zw := zw.on b
  replace rp := rp.on b
  replace BW := Below.step BW b
  clear b
  refine lex_call (by kernel_rfl) (by kernel_rfl) (fun w38 b K hK => ?_)
  replace hT := hT.on b
  replace hF := hF.on b
  replace zf := zf.on b
  replace zr := zr.on b
  replace rv := rv.on b
  replace zv := zv.on b
  replace rw_ := rw_.on b
  replace zw := zw.on b
  replace rp := rp.on b
  replace BW := Below.step BW b
  clear b
  go_simp
  refine (rgreatest_as hf neg n2 N3.out _).mono ?_
  rintro en w39 ⟨rfl, b⟩
  dsimp only
  refine hK _ _ b ?_
  clear hK K
  replace hT := hT.on b
  replace hF := hF.on b
  replace zf := zf.on b
  replace zr := zr.on b
  replace rv := rv.on b
  replace zv := zv.on b
  replace rw_ := rw_.on b
  replace zw := zw.on b
  replace rp := rp.on b
  replace BW := Below.step BW b
  clear b
  have lf0 : ∀ s : Wd w39, s.w.cell? ⟨w2.heap.size, 0, none⟩ = some (.int .i64 (B : Int)) := fun s => (zf.on s.below).cells.1
  have lf1 : ∀ s : Wd w39, s.w.cell? ⟨w2.heap.size, 1, none⟩ = some (.int .i64 (P : Int)) := fun s => (zf.on s.below).cells.2.1
  have lf2 : ∀ s : Wd w39, s.w.cell? ⟨w2.heap.size, 2, none⟩ = some (.int .i64 (W : Int)) := fun s => (zf.on s.below).cells.2.2.1
  have lf3 : ∀ s : Wd w39, s.w.cell? ⟨w4.heap.size, 0, none⟩ = some (.int .i64 (B : Int)) := fun s => (zr.on s.below).cells.1
  have lf4 : ∀ s : Wd w39, s.w.cell? ⟨w4.heap.size, 1, none⟩ = some (.int .i64 (P : Int)) := fun s => (zr.on s.below).cells.2.1
  have lf5 : ∀ s : Wd w39, s.w.cell? ⟨w4.heap.size, 2, none⟩ = some (.int .i64 (W : Int)) := fun s => (zr.on s.below).cells.2.2.1
  have lf6 : ∀ s : Wd w39, s.w.cell? ⟨w7.heap.size, 0, none⟩ = some (.bool vn) := fun s => (zv.on s.below).cells.1
  have lf7 : ∀ s : Wd w39, s.w.cell? ⟨w7.heap.size, 1, none⟩ = some (.slice V_rv v_rv v_rv) := fun s => (zv.on s.below).cells.2.1
  have lf8 : ∀ s : Wd w39, s.w.cell? ⟨w7.heap.size, 2, none⟩ = some (.int .i64 ve) := fun s => (zv.on s.below).cells.2.2.1
  have lf9 : ∀ s : Wd w39, s.w.cell? ⟨w9.heap.size, 0, none⟩ = some (.bool vn) := fun s => (zw.on s.below).cells.1
  have lf10 : ∀ s : Wd w39, s.w.cell? ⟨w9.heap.size, 1, none⟩ = some (.slice V_rw v_rw c_rw) := fun s => (zw.on s.below).cells.2.1
  have lf11 : ∀ s : Wd w39, s.w.cell? ⟨w9.heap.size, 2, none⟩ = some (.int .i64 ve) := fun s => (zw.on s.below).cells.2.2.1
  refine lex_plain 7 (by kernel_rfl) ?_
  dsimp only [List.take, List.drop]
  repeat go_big_quiet_step (fail)
  refine wpQuiet_nil ?_
  clear lf0 lf1 lf2 lf3 lf4 lf5 lf6 lf7 lf8 lf9 lf10 lf11
  refine lex_call (by kernel_rfl) (by kernel_rfl) (fun w40 b K hK => ?_)
  replace hT := hT.on b
  replace hF := hF.on b
  replace zf := zf.on b
  replace zr := zr.on b
  replace rv := rv.on b
  replace zv := zv.on b
  replace rw_ := rw_.on b
  replace zw := zw.on b
  replace rp := rp.on b
  replace BW := Below.step BW b
  clear b
  go_simp
  refine (nought_as hf neg n4 N4.out _).mono ?_
  rintro en w41 ⟨rfl, b⟩
  dsimp only
  refine hK _ _ b ?_
  clear hK K
  replace hT := hT.on b
  replace hF := hF.on b
  replace zf := zf.on b
  replace zr := zr.on b
  replace rv := rv.on b
  replace zv := zv.on b
  replace rw_ := rw_.on b
  replace zw := zw.on b
  replace rp := rp.on b
  replace BW := Below.step BW b
  clear b
  refine lex_call (by kernel_rfl) (by kernel_rfl) (fun w42 b K hK => ?_)
  replace hT := hT.on b
  replace hF := hF.on b
  replace zf := zf.on b
  replace zr := zr.on b
  replace rv := rv.on b
  replace zv := zv.on b
  replace rw_ := rw_.on b
  replace zw := zw.on b
  replace rp := rp.on b
  replace BW := Below.step BW b
  clear b
  go_simp
  refine (build_none hf neg n4 N4.out _).mono ?_
  rintro en w43 ⟨rfl, b⟩
  dsimp only
  refine hK _ _ b ?_
  clear hK K
  replace hT := hT.on b
  replace hF := hF.on b
  replace zf := zf.on b
  replace zr := zr.on b
  replace rv := rv.on b
  replace zv := zv.on b
  replace rw_ := rw_.on b
  replace zw := zw.on b
  replace rp := rp.on b
  replace BW := Below.step BW b
  clear b
  have lf0 : ∀ s : Wd w43, s.w.cell? ⟨w2.heap.size, 0, none⟩ = some (.int .i64 (B : Int)) := fun s => (zf.on s.below).cells.1
  have lf1 : ∀ s : Wd w43, s.w.cell? ⟨w2.heap.size, 1, none⟩ = some (.int .i64 (P : Int)) := fun s => (zf.on s.below).cells.2.1
  have lf2 : ∀ s : Wd w43, s.w.cell? ⟨w2.heap.size, 2, none⟩ = some (.int .i64 (W : Int)) := fun s => (zf.on s.below).cells.2.2.1
  have lf3 : ∀ s : Wd w43, s.w.cell? ⟨w4.heap.size, 0, none⟩ = some (.int .i64 (B : Int)) := fun s => (zr.on s.below).cells.1
  have lf4 : ∀ s : Wd w43, s.w.cell? ⟨w4.heap.size, 1, none⟩ = some (.int .i64 (P : Int)) := fun s => (zr.on s.below).cells.2.1
  have lf5 : ∀ s : Wd w43, s.w.cell? ⟨w4.heap.size, 2, none⟩ = some (.int .i64 (W : Int)) := fun s => (zr.on s.below).cells.2.2.1
  have lf6 : ∀ s : Wd w43, s.w.cell? ⟨w7.heap.size, 0, none⟩ = some (.bool vn) := fun s => (zv.on s.below).cells.1
  have lf7 : ∀ s : Wd w43, s.w.cell? ⟨w7.heap.size, 1, none⟩ = some (.slice V_rv v_rv v_rv) := fun s => (zv.on s.below).cells.2.1
  have lf8 : ∀ s : Wd w43, s.w.cell? ⟨w7.heap.size, 2, none⟩ = some (.int .i64 ve) := fun s => (zv.on s.below).cells.2.2.1
  have lf9 : ∀ s : Wd w43, s.w.cell? ⟨w9.heap.size, 0, none⟩ = some (.bool vn) := fun s => (zw.on s.below).cells.1
  have lf10 : ∀ s : Wd w43, s.w.cell? ⟨w9.heap.size, 1, none⟩ = some (.slice V_rw v_rw c_rw) := fun s => (zw.on s.below).cells.2.1
  have lf11 : ∀ s : Wd w43, s.w.cell? ⟨w9.heap.size, 2, none⟩ = some (.int .i64 ve) := fun s => (zw.on s.below).cells.2.2.1
  refine lex_plain 5 (by kernel_rfl) ?_
  dsimp only [List.take, List.drop]
  repeat go_big_quiet_step (fail)
  refine wpQuiet_nil ?_
  clear lf0 lf1 lf2 lf3 lf4 lf5 lf6 lf7 lf8 lf9 lf10 lf11
  refine lex_call (by kernel_rfl) (by kernel_rfl) (fun w44 b K hK => ?_)
  replace hT := hT.on b
  replace hF := hF.on b
  replace zf := zf.on b
  replace zr := zr.on b
  replace rv := rv.on b
  replace zv := zv.on b
  replace rw_ := rw_.on b
  replace zw := zw.on b
  replace rp := rp.on b
  replace BW := Below.step BW b
  clear b
  go_simp
  refine (fnone_as hf n5 N5.out _).mono ?_
  rintro en w45 ⟨rfl, b⟩
  dsimp only
  refine hK _ _ b ?_
  clear hK K
  replace hT := hT.on b
  replace hF := hF.on b
  replace zf := zf.on b
  replace zr := zr.on b
  replace rv := rv.on b
  replace zv := zv.on b
  replace rw_ := rw_.on b
  replace zw := zw.on b
  replace rp := rp.on b
  replace BW := Below.step BW b
  clear b
  refine lex_call (by kernel_rfl) (by kernel_rfl) (fun w46 b K hK => ?_)
  replace hT := hT.on b
  replace hF := hF.on b
  replace zf := zf.on b
  replace zr := zr.on b
  replace rv := rv.on b
  replace zv := zv.on b
  replace rw_ := rw_.on b
  replace zw := zw.on b
  replace rp := rp.on b
  replace BW := Below.step BW b
  clear b
  go_simp
  refine (rnone_as hf n5 N5.out _).mono ?_
  rintro en w47 ⟨rfl, b⟩
  dsimp only
  refine hK _ _ b ?_
  clear hK K
  replace hT := hT.on b
  replace hF := hF.on b
  replace zf := zf.on b
  replace zr := zr.on b
  replace rv := rv.on b
  replace zv := zv.on b
  replace rw_ := rw_.on b
  replace zw := zw.on b
  replace rp := rp.on b
  replace BW := Below.step BW b
  clear b
  have lf0 : ∀ s : Wd w47, s.w.cell? ⟨w2.heap.size, 0, none⟩ = some (.int .i64 (B : Int)) := fun s => (zf.on s.below).cells.1
  have lf1 : ∀ s : Wd w47, s.w.cell? ⟨w2.heap.size, 1, none⟩ = some (.int .i64 (P : Int)) := fun s => (zf.on s.below).cells.2.1
  have lf2 : ∀ s : Wd w47, s.w.cell? ⟨w2.heap.size, 2, none⟩ = some (.int .i64 (W : Int)) := fun s => (zf.on s.below).cells.2.2.1
  have lf3 : ∀ s : Wd w47, s.w.cell? ⟨w4.heap.size, 0, none⟩ = some (.int .i64 (B : Int)) := fun s => (zr.on s.below).cells.1
  have lf4 : ∀ s : Wd w47, s.w.cell? ⟨w4.heap.size, 1, none⟩ = some (.int .i64 (P : Int)) := fun s => (zr.on s.below).cells.2.1
  have lf5 : ∀ s : Wd w47, s.w.cell? ⟨w4.heap.size, 2, none⟩ = some (.int .i64 (W : Int)) := fun s => (zr.on s.below).cells.2.2.1
  have lf6 : ∀ s : Wd w47, s.w.cell? ⟨w7.heap.size, 0, none⟩ = some (.bool vn) := fun s => (zv.on s.below).cells.1
  have lf7 : ∀ s : Wd w47, s.w.cell? ⟨w7.heap.size, 1, none⟩ = some (.slice V_rv v_rv v_rv) := fun s => (zv.on s.below).cells.2.1
  have lf8 : ∀ s : Wd w47, s.w.cell? ⟨w7.heap.size, 2, none⟩ = some (.int .i64 ve) := fun s => (zv.on s.below).cells.2.2.1
  have lf9 : ∀ s : Wd w47, s.w.cell? ⟨w9.heap.size, 0, none⟩ = some (.bool vn) := fun s => (zw.on s.below).cells.1
  have lf10 : ∀ s : Wd w47, s.w.cell? ⟨w9.heap.size, 1, none⟩ = some (.slice V_rw v_rw c_rw) := fun s => (zw.on s.below).cells.2.1
  have lf11 : ∀ s : Wd w47, s.w.cell? ⟨w9.heap.size, 2, none⟩ = some (.int .i64 ve) := fun s => (zw.on s.below).cells.2.2.1
  refine lex_plain 7 (by kernel_rfl) ?_
  dsimp only [List.take, List.drop]
  repeat go_big_quiet_step (fail)
  refine wpQuiet_nil ?_
  clear lf0 lf1 lf2 lf3 lf4 lf5 lf6 lf7 lf8 lf9 lf10 lf11
  refine lex_call (by kernel_rfl) (by kernel_rfl) (fun w48 b K hK => ?_)
  replace hT := hT.on b
  replace hF := hF.on b
  replace zf := zf.on b
  replace zr := zr.on b
  replace rv := rv.on b
  replace zv := zv.on b
  replace rw_ := rw_.on b
  replace zw := zw.on b
  replace rp := rp.on b
  replace BW := Below.step BW b
  clear b
  go_simp
  refine (quieted_as hf kb n6 hb N6.out _).mono ?_
  rintro en w49 ⟨rfl, b⟩
  dsimp only
  refine hK _ _ b ?_
  clear hK K
  replace hT := hT.on b
  replace hF := hF.on b
  replace zf := zf.on b
  replace zr := zr.on b
  replace rv := rv.on b
  replace zv := zv.on b
  replace rw_ := rw_.on b
  replace zw := zw.on b
  replace rp := rp.on b
  replace BW := Below.step BW b
  clear b
  refine lex_call (by kernel_rfl) (by kernel_rfl) (fun w50 b K hK => ?_)
  replace hT := hT.on b
  replace hF := hF.on b
  replace zf := zf.on b
  replace zr := zr.on b
  replace rv := rv.on b
  replace zv := zv.on b
  replace rw_ := rw_.on b
  replace zw := zw.on b
  replace rp := rp.on b
  replace BW := Below.step BW b
  clear b
  go_simp
  refine (rquieted_as hf kb n6 hb N6.out _).mono ?_
  rintro en w51 ⟨rfl, b⟩
  dsimp only
  refine hK _ _ b ?_
  clear hK K
  replace hT := hT.on b
  replace hF := hF.on b
  replace zf := zf.on b
  replace zr := zr.on b
  replace rv := rv.on b
  replace zv := zv.on b
  replace rw_ := rw_.on b
  replace zw := zw.on b
  replace rp := rp.on b
  replace BW := Below.step BW b
  clear b
  have lf0 : ∀ s : Wd w51, s.w.cell? ⟨w2.heap.size, 0, none⟩ = some (.int .i64 (B : Int)) := fun s => (zf.on s.below).cells.1
  have lf1 : ∀ s : Wd w51, s.w.cell? ⟨w2.heap.size, 1, none⟩ = some (.int .i64 (P : Int)) := fun s => (zf.on s.below).cells.2.1
  have lf2 : ∀ s : Wd w51, s.w.cell? ⟨w2.heap.size, 2, none⟩ = some (.int .i64 (W : Int)) := fun s => (zf.on s.below).cells.2.2.1
  have lf3 : ∀ s : Wd w51, s.w.cell? ⟨w4.heap.size, 0, none⟩ = some (.int .i64 (B : Int)) := fun s => (zr.on s.below).cells.1
  have lf4 : ∀ s : Wd w51, s.w.cell? ⟨w4.heap.size, 1, none⟩ = some (.int .i64 (P : Int)) := fun s => (zr.on s.below).cells.2.1
  have lf5 : ∀ s : Wd w51, s.w.cell? ⟨w4.heap.size, 2, none⟩ = some (.int .i64 (W : Int)) := fun s => (zr.on s.below).cells.2.2.1
  have lf6 : ∀ s : Wd w51, s.w.cell? ⟨w7.heap.size, 0, none⟩ = some (.bool vn) := fun s => (zv.on s.below).cells.1
  have lf7 : ∀ s : Wd w51, s.w.cell? ⟨w7.heap.size, 1, none⟩ = some (.slice V_rv v_rv v_rv) := fun s => (zv.on s.below).cells.2.1
  have lf8 : ∀ s : Wd w51, s.w.cell? ⟨w7.heap.size, 2, none⟩ = some (.int .i64 ve) := fun s => (zv.on s.below).cells.2.2.1
  have lf9 : ∀ s : Wd w51, s.w.cell? ⟨w9.heap.size, 0, none⟩ = some (.bool vn) := fun s => (zw.on s.below).cells.1
  have lf10 : ∀ s : Wd w51, s.w.cell? ⟨w9.heap.size, 1, none⟩ = some (.slice V_rw v_rw c_rw) := fun s => (zw.on s.below).cells.2.1
  have lf11 : ∀ s : Wd w51, s.w.cell? ⟨w9.heap.size, 2, none⟩ = some (.int .i64 ve) := fun s => (zw.on s.below).cells.2.2.1
  refine lex_plain 3 (by kernel_rfl) ?_
  dsimp only [List.take, List.drop]
  repeat go_big_quiet_step (fail)
  refine wpQuiet_nil ?_
  clear lf0 lf1 lf2 lf3 lf4 lf5 lf6 lf7 lf8 lf9 lf10 lf11
  refine lex_nil (fun w52 b => ?_)
  replace hT := hT.on b
  replace hF := hF.on b
  replace zf := zf.on b
  replace zr := zr.on b
  replace rv := rv.on b
  replace zv := zv.on b
  replace rw_ := rw_.on b
  replace zw := zw.on b
  replace rp := rp.on b
  replace BW := Below.step BW b
  clear b
  dsimp only [NoPanic]
  go_wp2_with fail
  go_ret
  exact ⟨rfl, BW⟩
theorem tells_walk3 (bits : Int) (kb : Nat) (hb : kb < 18446744073709551616) (neg : Bool) {w : World} (hT : Tab w) (hF : Frm w) :
    Calls Tryd.prog 3 #[.int .i64 bits, .int .u64 (kb : Int), .bool neg] w fun e w' => e = .returned (.bool true) ∧ Below w.heap.size w w' := by
  rcases fm_of bits with ⟨B, P, W, M, E, H, low, hf, rfl⟩ | ⟨h1, h2, h3⟩
  · exact tells_main hf kb hb neg hT hF
  · exact tells_bad bits (kb : Int) neg h1 h2 h3 hT hF
end Go.Proofs.YtflicmdgijghaaaDoor
