
/-
  The walk of the law RoundKeeps.
-/
import Derived.Test.YtkjbejdeejpdoaaDoorKw
import Derived.Test.YtkjbejdeejpdoaaDoorFopen
import Derived.LoopN
namespace Go.Proofs.YtkjbejdeejpdoaaDoor
open Go.RowKit
set_option linter.unusedVariables false

theorem keeps_bad (bits b : Int) (h1 : bits ≠ 16) (h2 : bits ≠ 32) (h3 : bits ≠ 64) {w : World} (hT : Tab w) (hF : Frm w) :
    Calls Tryd.prog 4 #[.int .i64 bits, .int .u64 b] w fun e w' => e = .returned (.bool true) ∧ Below w.heap.size w w' := by
  go_enter Tryd.func4, Tryd.ntmps4
  go_wp2_with fail
  refine (awake4_any hT hF).mono ?_
  rintro en w1 ⟨rfl, b⟩
  replace hT := hT.on b
  replace hF := hF.on b
  have BW := b
  clear b
  go_wp2_with fail
  refine (of_bad bits h1 h2 h3 _ hF).mono ?_
  rintro en w2 ⟨rfl, b⟩
  replace hT := hT.on b
  replace hF := hF.on b
  replace BW := Below.step BW b
  clear b
  go_wp2_with fail
  go_ret
  exact ⟨rfl, below_k BW _⟩
theorem keeps_none {B P W M E H : Nat} {low : Int} (hf : Fm B P W M E H low) (b : Nat) (hb : b < 18446744073709551616) (q : Int) (hq : (q != 0) = true) (hv : valS M E H low b = (⟨false, 0, 0⟩, q)) {w : World} (hT : Tab w) (hF : Frm w) :
    Calls Tryd.prog 4 #[.int .i64 (B : Int), .int .u64 (b : Int)] w fun e w' => e = .returned (.bool true) ∧ Below w.heap.size w w' := by
  have HV := Lib.hid hv
  clear hv
  go_enter Tryd.func4, Tryd.ntmps4
  go_wp2_with fail
  refine (awake4_any hT hF).mono ?_
  rintro en w1 ⟨rfl, b⟩
  replace hT := hT.on b
  replace hF := hF.on b
  have BW := b
  clear b
  go_wp2_with fail
  refine (of_fm hf _ hF).mono ?_
  rintro en w2 ⟨rfl, b⟩
  replace hT := hT.on b
  replace hF := hF.on b
  replace BW := Below.step BW b
  clear b
  go_upto_region 4 with fail
  obtain ⟨w3, e_w3⟩ : ∃ w', w2.alloc (.cells #[.int .i64 (B : Int), .int .i64 (P : Int), .int .i64 (W : Int)] 28) = w' := ⟨_, rfl⟩
  have b : Below w2.heap.size w2 w3 := e_w3 ▸ below_lit _ _
  have hs_w3 : w3.heap.size = w2.heap.size + 1 := e_w3 ▸ size_lit w2 _ rfl
  have zf : FB w3 w2.heap.size 28 (B : Int) (P : Int) (W : Int) := e_w3 ▸ Box.made_at w2 rfl 28 (notU_int _) (notU_int _) (notU_int _)
  rw [e_w3]
  clear e_w3
  replace hT := hT.on b
  replace hF := hF.on b
  replace BW := Below.step BW b
  clear b
  clear hs_w3
  obtain ⟨zfc0, zfc1, zfc2, zff0, zff1, zff2, zfl⟩ := zf.cells
  go_wp2_with fail
  refine (value_as hf b hb hT HV.out).mono ?_
  rintro en w4 ⟨V_rv, v_rv, rfl, rv, b⟩
  clear zfc0 zfc1 zfc2 zff0 zff1 zff2 zfl
  replace hT := hT.on b
  replace hF := hF.on b
  replace zf := zf.on b
  replace BW := Below.step BW b
  clear b
  obtain ⟨zfc0, zfc1, zfc2, zff0, zff1, zff2, zfl⟩ := zf.cells
  go_upto_region 7 with fail
  clear zfc0 zfc1 zfc2 zff0 zff1 zff2 zfl
  obtain ⟨w5, e_w5⟩ : ∃ w', w4.alloc (dob false V_rv v_rv v_rv 0 25) = w' := ⟨_, rfl⟩
  have b : Below w4.heap.size w4 w5 := e_w5 ▸ below_lit _ _
  have hs_w5 : w5.heap.size = w4.heap.size + 1 := e_w5 ▸ size_lit w4 _ rfl
  have zv : DB w5 w4.heap.size 25 false V_rv v_rv v_rv 0 := e_w5 ▸ DB.made w4 rfl 25 false V_rv v_rv v_rv 0
  rw [e_w5]
  clear e_w5
  replace hT := hT.on b
  replace hF := hF.on b
  replace zf := zf.on b
  replace rv := rv.on b
  replace BW := Below.step BW b
  clear b
  clear hs_w5
  go_wp2_with fail
  go_ret
  exact ⟨rfl, BW⟩
set_option maxHeartbeats 4000000 in
theorem keeps_num {B P W M E H : Nat} {low : Int} (hf : Fm B P W M E H low) (b : Nat) (hb : b < 18446744073709551616) {dn : Bool} {dx : Nat} {de : Int} (s : Bool) (hv : valS M E H low b = (⟨dn, dx, de⟩, 0)) (hl : blen dx ≤ 4096) (hn : decide (b / H % 2 = 1) = s)
    (hr : ∀ mode : Int, 0 ≤ mode → mode ≤ 4 → roundS P M E H low mode ⟨dn, dx, de⟩ s = (b, 0, 0)) {w : World} (hT : Tab w) (hF : Frm w) :
    Calls Tryd.prog 4 #[.int .i64 (B : Int), .int .u64 (b : Int)] w fun e w' => e = .returned (.bool true) ∧ Below w.heap.size w w' := by
  have HV := Lib.hid hv
  have HN := Lib.hid hn
  have HR := Lib.hid hr
  clear hv hn hr
  go_enter Tryd.func4, Tryd.ntmps4
  go_wp2_with fail
  refine (awake4_any hT hF).mono ?_
  rintro en w1 ⟨rfl, b⟩
  replace hT := hT.on b
  replace hF := hF.on b
  have BW := b
  clear b
  go_wp2_with fail
  refine (of_fm hf _ hF).mono ?_
  rintro en w2 ⟨rfl, b⟩
  replace hT := hT.on b
  replace hF := hF.on b
  replace BW := Below.step BW b
  clear b
  go_upto_region 4 with fail
  obtain ⟨w3, e_w3⟩ : ∃ w', w2.alloc (.cells #[.int .i64 (B : Int), .int .i64 (P : Int), .int .i64 (W : Int)] 28) = w' := ⟨_, rfl⟩
  have b : Below w2.heap.size w2 w3 := e_w3 ▸ below_lit _ _
  have hs_w3 : w3.heap.size = w2.heap.size + 1 := e_w3 ▸ size_lit w2 _ rfl
  have zf : FB w3 w2.heap.size 28 (B : Int) (P : Int) (W : Int) := e_w3 ▸ Box.made_at w2 rfl 28 (notU_int _) (notU_int _) (notU_int _)
  rw [e_w3]
  clear e_w3
  replace hT := hT.on b
  replace hF := hF.on b
  replace BW := Below.step BW b
  clear b
  clear hs_w3
  obtain ⟨zfc0, zfc1, zfc2, zff0, zff1, zff2, zfl⟩ := zf.cells
  go_wp2_with fail
  refine (value_as hf b hb hT HV.out).mono ?_
  rintro en w4 ⟨V_rv, v_rv, rfl, rv, b⟩
  clear zfc0 zfc1 zfc2 zff0 zff1 zff2 zfl
  replace hT := hT.on b
  replace hF := hF.on b
  replace zf := zf.on b
  replace BW := Below.step BW b
  clear b
  obtain ⟨zfc0, zfc1, zfc2, zff0, zff1, zff2, zfl⟩ := zf.cells
  go_upto_region 7 with fail
  clear zfc0 zfc1 zfc2 zff0 zff1 zff2 zfl
  obtain ⟨w5, e_w5⟩ : ∃ w', w4.alloc (dob dn V_rv v_rv v_rv de 25) = w' := ⟨_, rfl⟩
  have b : Below w4.heap.size w4 w5 := e_w5 ▸ below_lit _ _
  have hs_w5 : w5.heap.size = w4.heap.size + 1 := e_w5 ▸ size_lit w4 _ rfl
  have zv : DB w5 w4.heap.size 25 dn V_rv v_rv v_rv de := e_w5 ▸ DB.made w4 rfl 25 dn V_rv v_rv v_rv de
  rw [e_w5]
  clear e_w5
  replace hT := hT.on b
  replace hF := hF.on b
  replace zf := zf.on b
  replace rv := rv.on b
  replace BW := Below.step BW b
  clear b
  clear hs_w5
  have lv := res_n_le rv (k := 128) hl
  go_wp2_with fail
  refine wp_loop_rounds 6 ?_
  rw [rounds_succ]
  obtain ⟨zfc0, zfc1, zfc2, zff0, zff1, zff2, zfl⟩ := zf.cells
  obtain ⟨zvc0, zvc1, zvc2, zvf0, zvf1, zvf2, zvl⟩ := zv.cells
  go_upto_region 12 with fail
  clear zfc0 zfc1 zfc2 zff0 zff1 zff2 zfl zvc0 zvc1 zvc2 zvf0 zvf1 zvf2 zvl
  replace hT := hT.on ((Below.refl _ _).drew : Below w5.heap.size w5 w5.drew)
  replace hF := hF.on ((Below.refl _ _).drew : Below w5.heap.size w5 w5.drew)
  replace zf := zf.on ((Below.refl _ _).drew : Below w5.heap.size w5 w5.drew)
  replace rv := rv.on ((Below.refl _ _).drew : Below w5.heap.size w5 w5.drew)
  replace zv := zv.on ((Below.refl _ _).drew : Below w5.heap.size w5 w5.drew)
  replace BW := Lib.hid (Below.step BW ((Below.refl _ _).drew : Below w5.heap.size w5 w5.drew))
  go_region_held3 (fun w' => w'.cell? ⟨w2.heap.size, 0, none⟩ = some (.int .i64 (B : Int)) ∧ w'.cell? ⟨w2.heap.size, 1, none⟩ = some (.int .i64 (P : Int)) ∧ w'.cell? ⟨w2.heap.size, 2, none⟩ = some (.int .i64 (W : Int)) ∧ w'.cell? ⟨w4.heap.size, 0, none⟩ = some (.bool dn) ∧ w'.cell? ⟨w4.heap.size, 1, none⟩ = some (.slice V_rv v_rv v_rv) ∧ w'.cell? ⟨w4.heap.size, 2, none⟩ = some (.int .i64 de))
    ((exact ⟨zf.cells.1, zf.cells.2.1, zf.cells.2.2.1, zv.cells.1, zv.cells.2.1, zv.cells.2.2.1⟩))
    (first
      | (go_at_call 20
         (with_reducible refine (fneg_as hf b hb s HN.out _).mono ?_)
         rintro en w6 ⟨rfl, b⟩
         replace hT := hT.on b
         replace hF := hF.on b
         replace zf := zf.on b
         replace rv := rv.on b
         replace zv := zv.on b
         replace BW := Lib.hid (Below.step BW.out b)
         clear b)
      | (go_at_call 19
         (with_reducible refine (to_as hf (rv.arg (by omega)) (by omega) hT 0 s (HR.out 0 (by omega) (by omega))).mono ?_)
         rintro en w7 ⟨rfl, b⟩
         replace hT := hT.on b
         replace hF := hF.on b
         replace zf := zf.on b
         replace rv := rv.on b
         replace zv := zv.on b
         replace BW := Lib.hid (Below.step BW.out b)
         clear b))
  replace BW := BW.out
  go_wp2_with fail
  rw [rounds_succ]
  obtain ⟨zfc0, zfc1, zfc2, zff0, zff1, zff2, zfl⟩ := zf.cells
  obtain ⟨zvc0, zvc1, zvc2, zvf0, zvf1, zvf2, zvl⟩ := zv.cells
  go_upto_region 12 with fail
  clear zfc0 zfc1 zfc2 zff0 zff1 zff2 zfl zvc0 zvc1 zvc2 zvf0 zvf1 zvf2 zvl
  replace hT := hT.on ((Below.refl _ _).drew : Below w7.heap.size w7 w7.drew)
  replace hF := hF.on ((Below.refl _ _).drew : Below w7.heap.size w7 w7.drew)
  replace zf := zf.on ((Below.refl _ _).drew : Below w7.heap.size w7 w7.drew)
  replace rv := rv.on ((Below.refl _ _).drew : Below w7.heap.size w7 w7.drew)
  replace zv := zv.on ((Below.refl _ _).drew : Below w7.heap.size w7 w7.drew)
  replace BW := Lib.hid (Below.step BW ((Below.refl _ _).drew : Below w7.heap.size w7 w7.drew))
  go_region_held3 (fun w' => w'.cell? ⟨w2.heap.size, 0, none⟩ = some (.int .i64 (B : Int)) ∧ w'.cell? ⟨w2.heap.size, 1, none⟩ = some (.int .i64 (P : Int)) ∧ w'.cell? ⟨w2.heap.size, 2, none⟩ = some (.int .i64 (W : Int)) ∧ w'.cell? ⟨w4.heap.size, 0, none⟩ = some (.bool dn) ∧ w'.cell? ⟨w4.heap.size, 1, none⟩ = some (.slice V_rv v_rv v_rv) ∧ w'.cell? ⟨w4.heap.size, 2, none⟩ = some (.int .i64 de))
    ((exact ⟨zf.cells.1, zf.cells.2.1, zf.cells.2.2.1, zv.cells.1, zv.cells.2.1, zv.cells.2.2.1⟩))
    (first
      | (go_at_call 20
         (with_reducible refine (fneg_as hf b hb s HN.out _).mono ?_)
         rintro en w8 ⟨rfl, b⟩
         replace hT := hT.on b
         replace hF := hF.on b
         replace zf := zf.on b
         replace rv := rv.on b
         replace zv := zv.on b
         replace BW := Lib.hid (Below.step BW.out b)
         clear b)
      | (go_at_call 19
         (with_reducible refine (to_as hf (rv.arg (by omega)) (by omega) hT 1 s (HR.out 1 (by omega) (by omega))).mono ?_)
         rintro en w9 ⟨rfl, b⟩
         replace hT := hT.on b
         replace hF := hF.on b
         replace zf := zf.on b
         replace rv := rv.on b
         replace zv := zv.on b
         replace BW := Lib.hid (Below.step BW.out b)
         clear b))
  replace BW := BW.out
  go_wp2_with fail
  rw [rounds_succ]
  obtain ⟨zfc0, zfc1, zfc2, zff0, zff1, zff2, zfl⟩ := zf.cells
  obtain ⟨zvc0, zvc1, zvc2, zvf0, zvf1, zvf2, zvl⟩ := zv.cells
  go_upto_region 12 with fail
  clear zfc0 zfc1 zfc2 zff0 zff1 zff2 zfl zvc0 zvc1 zvc2 zvf0 zvf1 zvf2 zvl
  replace hT := hT.on ((Below.refl _ _).drew : Below w9.heap.size w9 w9.drew)
  replace hF := hF.on ((Below.refl _ _).drew : Below w9.heap.size w9 w9.drew)
  replace zf := zf.on ((Below.refl _ _).drew : Below w9.heap.size w9 w9.drew)
  replace rv := rv.on ((Below.refl _ _).drew : Below w9.heap.size w9 w9.drew)
  replace zv := zv.on ((Below.refl _ _).drew : Below w9.heap.size w9 w9.drew)
  replace BW := Lib.hid (Below.step BW ((Below.refl _ _).drew : Below w9.heap.size w9 w9.drew))
  go_region_held3 (fun w' => w'.cell? ⟨w2.heap.size, 0, none⟩ = some (.int .i64 (B : Int)) ∧ w'.cell? ⟨w2.heap.size, 1, none⟩ = some (.int .i64 (P : Int)) ∧ w'.cell? ⟨w2.heap.size, 2, none⟩ = some (.int .i64 (W : Int)) ∧ w'.cell? ⟨w4.heap.size, 0, none⟩ = some (.bool dn) ∧ w'.cell? ⟨w4.heap.size, 1, none⟩ = some (.slice V_rv v_rv v_rv) ∧ w'.cell? ⟨w4.heap.size, 2, none⟩ = some (.int .i64 de))
    ((exact ⟨zf.cells.1, zf.cells.2.1, zf.cells.2.2.1, zv.cells.1, zv.cells.2.1, zv.cells.2.2.1⟩))
    (first
      | (go_at_call 20
         (with_reducible refine (fneg_as hf b hb s HN.out _).mono ?_)
         rintro en w10 ⟨rfl, b⟩
         replace hT := hT.on b
         replace hF := hF.on b
         replace zf := zf.on b
         replace rv := rv.on b
         replace zv := zv.on b
         replace BW := Lib.hid (Below.step BW.out b)
         clear b)
      | (go_at_call 19
         (with_reducible refine (to_as hf (rv.arg (by omega)) (by omega) hT 2 s (HR.out 2 (by omega) (by omega))).mono ?_)
         rintro en w11 ⟨rfl, b⟩
         replace hT := hT.on b
         replace hF := hF.on b
         replace zf := zf.on b
         replace rv := rv.on b
         replace zv := zv.on b
         replace BW := Lib.hid (Below.step BW.out b)
         clear b))
  replace BW := BW.out
  go_wp2_with fail
  rw [rounds_succ]
  obtain ⟨zfc0, zfc1, zfc2, zff0, zff1, zff2, zfl⟩ := zf.cells
  obtain ⟨zvc0, zvc1, zvc2, zvf0, zvf1, zvf2, zvl⟩ := zv.cells
  go_upto_region 12 with fail
  clear zfc0 zfc1 zfc2 zff0 zff1 zff2 zfl zvc0 zvc1 zvc2 zvf0 zvf1 zvf2 zvl
  replace hT := hT.on ((Below.refl _ _).drew : Below w11.heap.size w11 w11.drew)
  replace hF := hF.on ((Below.refl _ _).drew : Below w11.heap.size w11 w11.drew)
  replace zf := zf.on ((Below.refl _ _).drew : Below w11.heap.size w11 w11.drew)
  replace rv := rv.on ((Below.refl _ _).drew : Below w11.heap.size w11 w11.drew)
  replace zv := zv.on ((Below.refl _ _).drew : Below w11.heap.size w11 w11.drew)
  replace BW := Lib.hid (Below.step BW ((Below.refl _ _).drew : Below w11.heap.size w11 w11.drew))
  go_region_held3 (fun w' => w'.cell? ⟨w2.heap.size, 0, none⟩ = some (.int .i64 (B : Int)) ∧ w'.cell? ⟨w2.heap.size, 1, none⟩ = some (.int .i64 (P : Int)) ∧ w'.cell? ⟨w2.heap.size, 2, none⟩ = some (.int .i64 (W : Int)) ∧ w'.cell? ⟨w4.heap.size, 0, none⟩ = some (.bool dn) ∧ w'.cell? ⟨w4.heap.size, 1, none⟩ = some (.slice V_rv v_rv v_rv) ∧ w'.cell? ⟨w4.heap.size, 2, none⟩ = some (.int .i64 de))
    ((exact ⟨zf.cells.1, zf.cells.2.1, zf.cells.2.2.1, zv.cells.1, zv.cells.2.1, zv.cells.2.2.1⟩))
    (first
      | (go_at_call 20
         (with_reducible refine (fneg_as hf b hb s HN.out _).mono ?_)
         rintro en w12 ⟨rfl, b⟩
         replace hT := hT.on b
         replace hF := hF.on b
         replace zf := zf.on b
         replace rv := rv.on b
         replace zv := zv.on b
         replace BW := Lib.hid (Below.step BW.out b)
         clear b)
      | (go_at_call 19
         (with_reducible refine (to_as hf (rv.arg (by omega)) (by omega) hT 3 s (HR.out 3 (by omega) (by omega))).mono ?_)
         rintro en w13 ⟨rfl, b⟩
         replace hT := hT.on b
         replace hF := hF.on b
         replace zf := zf.on b
         replace rv := rv.on b
         replace zv := zv.on b
         replace BW := Lib.hid (Below.step BW.out b)
         clear b))
  replace BW := BW.out
  go_wp2_with fail
  rw [rounds_succ]
  obtain ⟨zfc0, zfc1, zfc2, zff0, zff1, zff2, zfl⟩ := zf.cells
  obtain ⟨zvc0, zvc1, zvc2, zvf0, zvf1, zvf2, zvl⟩ := zv.cells
  go_upto_region 12 with fail
  clear zfc0 zfc1 zfc2 zff0 zff1 zff2 zfl zvc0 zvc1 zvc2 zvf0 zvf1 zvf2 zvl
  replace hT := hT.on ((Below.refl _ _).drew : Below w13.heap.size w13 w13.drew)
  replace hF := hF.on ((Below.refl _ _).drew : Below w13.heap.size w13 w13.drew)
  replace zf := zf.on ((Below.refl _ _).drew : Below w13.heap.size w13 w13.drew)
  replace rv := rv.on ((Below.refl _ _).drew : Below w13.heap.size w13 w13.drew)
  replace zv := zv.on ((Below.refl _ _).drew : Below w13.heap.size w13 w13.drew)
  replace BW := Lib.hid (Below.step BW ((Below.refl _ _).drew : Below w13.heap.size w13 w13.drew))
  go_region_held3 (fun w' => w'.cell? ⟨w2.heap.size, 0, none⟩ = some (.int .i64 (B : Int)) ∧ w'.cell? ⟨w2.heap.size, 1, none⟩ = some (.int .i64 (P : Int)) ∧ w'.cell? ⟨w2.heap.size, 2, none⟩ = some (.int .i64 (W : Int)) ∧ w'.cell? ⟨w4.heap.size, 0, none⟩ = some (.bool dn) ∧ w'.cell? ⟨w4.heap.size, 1, none⟩ = some (.slice V_rv v_rv v_rv) ∧ w'.cell? ⟨w4.heap.size, 2, none⟩ = some (.int .i64 de))
    ((exact ⟨zf.cells.1, zf.cells.2.1, zf.cells.2.2.1, zv.cells.1, zv.cells.2.1, zv.cells.2.2.1⟩))
    (first
      | (go_at_call 20
         (with_reducible refine (fneg_as hf b hb s HN.out _).mono ?_)
         rintro en w14 ⟨rfl, b⟩
         replace hT := hT.on b
         replace hF := hF.on b
         replace zf := zf.on b
         replace rv := rv.on b
         replace zv := zv.on b
         replace BW := Lib.hid (Below.step BW.out b)
         clear b)
      | (go_at_call 19
         (with_reducible refine (to_as hf (rv.arg (by omega)) (by omega) hT 4 s (HR.out 4 (by omega) (by omega))).mono ?_)
         rintro en w15 ⟨rfl, b⟩
         replace hT := hT.on b
         replace hF := hF.on b
         replace zf := zf.on b
         replace rv := rv.on b
         replace zv := zv.on b
         replace BW := Lib.hid (Below.step BW.out b)
         clear b))
  replace BW := BW.out
  go_wp2_with fail
  rw [rounds_succ]
  go_wp2_with fail
  go_ret
  exact ⟨rfl, BW⟩
theorem keeps_walk (bits : Int) (b : Nat) (hb : b < 18446744073709551616) {w : World} (hT : Tab w) (hF : Frm w) :
    Calls Tryd.prog 4 #[.int .i64 bits, .int .u64 (b : Int)] w fun e w' => e = .returned (.bool true) ∧ Below w.heap.size w w' := by
  rcases fm_of bits with ⟨B, P, W, M, E, H, low, hf, rfl⟩ | ⟨h1, h2, h3⟩
  · by_cases h2 : b < 2 * H
    · by_cases hE : b / M % (E + 1) = E
      · exact keeps_none hf b hb 1 rfl (by unfold valS; rw [if_pos h2, if_pos hE]) hT hF
      · obtain ⟨dn, dx, de, hd⟩ : ∃ dn dx de, D.pl ⟨decide (b / H % 2 = 1), valN M E b, valP M E low b⟩ = ⟨dn, dx, de⟩ := ⟨_, _, _, rfl⟩
        have hm := (val_may hf b (decide (b / H % 2 = 1))).2
        rw [hd] at hm
        exact keeps_num hf b hb _ (by unfold valS; rw [if_pos h2, if_neg hE, hd]) ((D.may_iff _).1 hm).1 rfl (fun mode m1 m2 => by rw [← hd]; exact round_keeps hf b h2 hE ⟨m1, m2⟩) hT hF
    · exact keeps_none hf b hb 3 rfl (by unfold valS; rw [if_neg h2]) hT hF
  · exact keeps_bad bits (b : Int) h1 h2 h3 hT hF
end Go.Proofs.YtkjbejdeejpdoaaDoor
