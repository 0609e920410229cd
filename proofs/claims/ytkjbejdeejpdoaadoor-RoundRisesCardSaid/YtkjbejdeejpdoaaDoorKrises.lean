
/-
  The walk of the law RoundRises.
-/
import Derived.Test.YtkjbejdeejpdoaaDoorKv
import Derived.Test.YtkjbejdeejpdoaaDoorFopen
import Derived.Test.YtkjbejdeejpdoaaDoorND
import Derived.Test.YtkjbejdeejpdoaaDoorRmf
import Derived.LoopN
namespace Go.Proofs.YtkjbejdeejpdoaaDoor
open Go.RowKit
set_option linter.unusedVariables false

theorem rdx0 (n0 : Bool) (A0 : Option Addr) (l0 c0 : Nat) (e0 : Int) (n1 : Bool) (A1 : Option Addr) (l1 c1 : Nat) (e1 : Int) (w : World) : (Instr.index 55 (.agg #[.bool n0, .slice A0 l0 c0, .int .i64 e0, .bool n1, .slice A1 l1 c1, .int .i64 e1]) (.int .i64 0)).run Tryd.prog w = .ok (.agg #[.bool n0, .slice A0 l0 c0, .int .i64 e0]) w := by kernel_rfl
theorem rdx1 (n0 : Bool) (A0 : Option Addr) (l0 c0 : Nat) (e0 : Int) (n1 : Bool) (A1 : Option Addr) (l1 c1 : Nat) (e1 : Int) (w : World) : (Instr.index 55 (.agg #[.bool n0, .slice A0 l0 c0, .int .i64 e0, .bool n1, .slice A1 l1 c1, .int .i64 e1]) (.int .i64 1)).run Tryd.prog w = .ok (.agg #[.bool n1, .slice A1 l1 c1, .int .i64 e1]) w := by kernel_rfl
set_option maxRecDepth 100000 in
theorem rises_bad (bits mode : Int) (b1 : bits ≠ 16) (b2 : bits ≠ 32) (b3 : bits ≠ 64) {n0 : Bool} {A0 : Option Addr} {l0 c0 x0 : Nat} {e0 : Int} {n1 : Bool} {A1 : Option Addr} {l1 c1 x1 : Nat} {e1 : Int} {w : World} (h0 : Arg w A0 l0 c0 x0) (h1 : Arg w A1 l1 c1 x1) (hT : Tab w) (hF : Frm w) :
    Calls Tryd.prog 5 #[.int .i64 bits, .int .i64 mode, .agg #[.bool n0, .slice A0 l0 c0, .int .i64 e0], .agg #[.bool n1, .slice A1 l1 c1, .int .i64 e1]] w fun e w' => e = .returned (.bool true) ∧ Below w.heap.size w w' := by
  go_enter Tryd.func5, Tryd.ntmps5
  go_wp2_with fail
  obtain ⟨V, hV, za, zb, BW, sW⟩ := frame2 w 25 25 n0 A0 l0 c0 e0 n1 A1 l1 c1 e1
  rw [hV]
  clear hV sW
  replace hT := hT.on BW
  replace hF := hF.on BW
  replace h0 := h0.on BW
  replace h1 := h1.on BW
  refine (awake4_any hT hF).mono ?_
  rintro en w1 ⟨rfl, b⟩
  replace hT := hT.on b
  replace hF := hF.on b
  replace za := za.on b
  replace zb := zb.on b
  replace h0 := h0.on b
  replace h1 := h1.on b
  replace BW := Below.step BW b
  clear b
  go_wp2_with fail
  refine (of_bad bits b1 b2 b3 _ hF).mono ?_
  rintro en w2 ⟨rfl, b⟩
  replace hT := hT.on b
  replace hF := hF.on b
  replace za := za.on b
  replace zb := zb.on b
  replace h0 := h0.on b
  replace h1 := h1.on b
  replace BW := Below.step BW b
  clear b
  obtain ⟨zac0, zac1, zac2, zaf0, zaf1, zaf2, zal⟩ := za.cells
  obtain ⟨zbc0, zbc1, zbc2, zbf0, zbf1, zbf2, zbl⟩ := zb.cells
  go_wp2_with fail
  go_ret
  exact ⟨rfl, below_k BW _⟩
set_option maxRecDepth 100000 in
theorem rises_m1 {B P W M E H : Nat} {low : Int} (hf : Fm B P W M E H low) (mode : Int) {n0 : Bool} {A0 : Option Addr} {l0 c0 x0 : Nat} {e0 : Int} {n1 : Bool} {A1 : Option Addr} {l1 c1 x1 : Nat} {e1 : Int} {w : World} (h0 : Arg w A0 l0 c0 x0) (h1 : Arg w A1 l1 c1 x1) (hT : Tab w) (hF : Frm w) (m1 : decide (mode < 0) = true) :
    Calls Tryd.prog 5 #[.int .i64 (B : Int), .int .i64 mode, .agg #[.bool n0, .slice A0 l0 c0, .int .i64 e0], .agg #[.bool n1, .slice A1 l1 c1, .int .i64 e1]] w fun e w' => e = .returned (.bool true) ∧ Below w.heap.size w w' := by
  go_enter Tryd.func5, Tryd.ntmps5
  go_wp2_with fail
  obtain ⟨V, hV, za, zb, BW, sW⟩ := frame2 w 25 25 n0 A0 l0 c0 e0 n1 A1 l1 c1 e1
  rw [hV]
  clear hV sW
  replace hT := hT.on BW
  replace hF := hF.on BW
  replace h0 := h0.on BW
  replace h1 := h1.on BW
  refine (awake4_any hT hF).mono ?_
  rintro en w1 ⟨rfl, b⟩
  replace hT := hT.on b
  replace hF := hF.on b
  replace za := za.on b
  replace zb := zb.on b
  replace h0 := h0.on b
  replace h1 := h1.on b
  replace BW := Below.step BW b
  clear b
  go_wp2_with fail
  refine (of_fm hf _ hF).mono ?_
  rintro en w2 ⟨rfl, b⟩
  replace hT := hT.on b
  replace hF := hF.on b
  replace za := za.on b
  replace zb := zb.on b
  replace h0 := h0.on b
  replace h1 := h1.on b
  replace BW := Below.step BW b
  clear b
  obtain ⟨zac0, zac1, zac2, zaf0, zaf1, zaf2, zal⟩ := za.cells
  obtain ⟨zbc0, zbc1, zbc2, zbf0, zbf1, zbf2, zbl⟩ := zb.cells
  go_upto_region 4 with fail
  clear zac0 zac1 zac2 zaf0 zaf1 zaf2 zal zbc0 zbc1 zbc2 zbf0 zbf1 zbf2 zbl
  obtain ⟨w3, e_w3⟩ : ∃ w', w2.alloc (.cells #[.int .i64 (B : Int), .int .i64 (P : Int), .int .i64 (W : Int)] 28) = w' := ⟨_, rfl⟩
  have b : Below w2.heap.size w2 w3 := e_w3 ▸ below_lit _ _
  have hs_w3 : w3.heap.size = w2.heap.size + 1 := e_w3 ▸ size_lit w2 _ rfl
  have zf : FB w3 w2.heap.size 28 (B : Int) (P : Int) (W : Int) := e_w3 ▸ Box.made_at w2 rfl 28 (notU_int _) (notU_int _) (notU_int _)
  rw [e_w3]
  clear e_w3
  replace hT := hT.on b
  replace hF := hF.on b
  replace za := za.on b
  replace zb := zb.on b
  replace h0 := h0.on b
  replace h1 := h1.on b
  replace BW := Below.step BW b
  clear b
  clear hs_w3
  obtain ⟨zfc0, zfc1, zfc2, zff0, zff1, zff2, zfl⟩ := zf.cells
  obtain ⟨zac0, zac1, zac2, zaf0, zaf1, zaf2, zal⟩ := za.cells
  obtain ⟨zbc0, zbc1, zbc2, zbf0, zbf1, zbf2, zbl⟩ := zb.cells
  go_wp2_with fail
  go_ret
  exact ⟨rfl, BW⟩
set_option maxRecDepth 100000 in
theorem rises_m2 {B P W M E H : Nat} {low : Int} (hf : Fm B P W M E H low) (mode : Int) {n0 : Bool} {A0 : Option Addr} {l0 c0 x0 : Nat} {e0 : Int} {n1 : Bool} {A1 : Option Addr} {l1 c1 x1 : Nat} {e1 : Int} {w : World} (h0 : Arg w A0 l0 c0 x0) (h1 : Arg w A1 l1 c1 x1) (hT : Tab w) (hF : Frm w) (m1 : decide (mode < 0) = false) (m2 : decide (5 ≤ mode) = true) :
    Calls Tryd.prog 5 #[.int .i64 (B : Int), .int .i64 mode, .agg #[.bool n0, .slice A0 l0 c0, .int .i64 e0], .agg #[.bool n1, .slice A1 l1 c1, .int .i64 e1]] w fun e w' => e = .returned (.bool true) ∧ Below w.heap.size w w' := by
  go_enter Tryd.func5, Tryd.ntmps5
  go_wp2_with fail
  obtain ⟨V, hV, za, zb, BW, sW⟩ := frame2 w 25 25 n0 A0 l0 c0 e0 n1 A1 l1 c1 e1
  rw [hV]
  clear hV sW
  replace hT := hT.on BW
  replace hF := hF.on BW
  replace h0 := h0.on BW
  replace h1 := h1.on BW
  refine (awake4_any hT hF).mono ?_
  rintro en w1 ⟨rfl, b⟩
  replace hT := hT.on b
  replace hF := hF.on b
  replace za := za.on b
  replace zb := zb.on b
  replace h0 := h0.on b
  replace h1 := h1.on b
  replace BW := Below.step BW b
  clear b
  go_wp2_with fail
  refine (of_fm hf _ hF).mono ?_
  rintro en w2 ⟨rfl, b⟩
  replace hT := hT.on b
  replace hF := hF.on b
  replace za := za.on b
  replace zb := zb.on b
  replace h0 := h0.on b
  replace h1 := h1.on b
  replace BW := Below.step BW b
  clear b
  obtain ⟨zac0, zac1, zac2, zaf0, zaf1, zaf2, zal⟩ := za.cells
  obtain ⟨zbc0, zbc1, zbc2, zbf0, zbf1, zbf2, zbl⟩ := zb.cells
  go_upto_region 4 with fail
  clear zac0 zac1 zac2 zaf0 zaf1 zaf2 zal zbc0 zbc1 zbc2 zbf0 zbf1 zbf2 zbl
  obtain ⟨w3, e_w3⟩ : ∃ w', w2.alloc (.cells #[.int .i64 (B : Int), .int .i64 (P : Int), .int .i64 (W : Int)] 28) = w' := ⟨_, rfl⟩
  have b : Below w2.heap.size w2 w3 := e_w3 ▸ below_lit _ _
  have hs_w3 : w3.heap.size = w2.heap.size + 1 := e_w3 ▸ size_lit w2 _ rfl
  have zf : FB w3 w2.heap.size 28 (B : Int) (P : Int) (W : Int) := e_w3 ▸ Box.made_at w2 rfl 28 (notU_int _) (notU_int _) (notU_int _)
  rw [e_w3]
  clear e_w3
  replace hT := hT.on b
  replace hF := hF.on b
  replace za := za.on b
  replace zb := zb.on b
  replace h0 := h0.on b
  replace h1 := h1.on b
  replace BW := Below.step BW b
  clear b
  clear hs_w3
  obtain ⟨zfc0, zfc1, zfc2, zff0, zff1, zff2, zfl⟩ := zf.cells
  obtain ⟨zac0, zac1, zac2, zaf0, zaf1, zaf2, zal⟩ := za.cells
  obtain ⟨zbc0, zbc1, zbc2, zbf0, zbf1, zbf2, zbl⟩ := zb.cells
  go_wp2_with fail
  go_ret
  exact ⟨rfl, BW⟩
set_option maxRecDepth 100000 in
theorem rises_gl0 {B P W M E H : Nat} {low : Int} (hf : Fm B P W M E H low) (mode : Int) {n0 : Bool} {A0 : Option Addr} {l0 c0 x0 : Nat} {e0 : Int} {n1 : Bool} {A1 : Option Addr} {l1 c1 x1 : Nat} {e1 : Int} {w : World} (h0 : Arg w A0 l0 c0 x0) (h1 : Arg w A1 l1 c1 x1) (hT : Tab w) (hF : Frm w) (m1 : decide (mode < 0) = false) (m2 : decide (5 ≤ mode) = false)   (gl0 : decide (40 < (l0 : Int)) = true) :
    Calls Tryd.prog 5 #[.int .i64 (B : Int), .int .i64 mode, .agg #[.bool n0, .slice A0 l0 c0, .int .i64 e0], .agg #[.bool n1, .slice A1 l1 c1, .int .i64 e1]] w fun e w' => e = .returned (.bool true) ∧ Below w.heap.size w w' := by
  go_enter Tryd.func5, Tryd.ntmps5
  go_wp2_with fail
  obtain ⟨V, hV, za, zb, BW, sW⟩ := frame2 w 25 25 n0 A0 l0 c0 e0 n1 A1 l1 c1 e1
  rw [hV]
  clear hV sW
  replace hT := hT.on BW
  replace hF := hF.on BW
  replace h0 := h0.on BW
  replace h1 := h1.on BW
  refine (awake4_any hT hF).mono ?_
  rintro en w1 ⟨rfl, b⟩
  replace hT := hT.on b
  replace hF := hF.on b
  replace za := za.on b
  replace zb := zb.on b
  replace h0 := h0.on b
  replace h1 := h1.on b
  replace BW := Below.step BW b
  clear b
  go_wp2_with fail
  refine (of_fm hf _ hF).mono ?_
  rintro en w2 ⟨rfl, b⟩
  replace hT := hT.on b
  replace hF := hF.on b
  replace za := za.on b
  replace zb := zb.on b
  replace h0 := h0.on b
  replace h1 := h1.on b
  replace BW := Below.step BW b
  clear b
  obtain ⟨zac0, zac1, zac2, zaf0, zaf1, zaf2, zal⟩ := za.cells
  obtain ⟨zbc0, zbc1, zbc2, zbf0, zbf1, zbf2, zbl⟩ := zb.cells
  go_upto_region 4 with fail
  clear zac0 zac1 zac2 zaf0 zaf1 zaf2 zal zbc0 zbc1 zbc2 zbf0 zbf1 zbf2 zbl
  obtain ⟨w3, e_w3⟩ : ∃ w', w2.alloc (.cells #[.int .i64 (B : Int), .int .i64 (P : Int), .int .i64 (W : Int)] 28) = w' := ⟨_, rfl⟩
  have b : Below w2.heap.size w2 w3 := e_w3 ▸ below_lit _ _
  have hs_w3 : w3.heap.size = w2.heap.size + 1 := e_w3 ▸ size_lit w2 _ rfl
  have zf : FB w3 w2.heap.size 28 (B : Int) (P : Int) (W : Int) := e_w3 ▸ Box.made_at w2 rfl 28 (notU_int _) (notU_int _) (notU_int _)
  rw [e_w3]
  clear e_w3
  replace hT := hT.on b
  replace hF := hF.on b
  replace za := za.on b
  replace zb := zb.on b
  replace h0 := h0.on b
  replace h1 := h1.on b
  replace BW := Below.step BW b
  clear b
  clear hs_w3
  have ix0 := rdx0 n0 A0 l0 c0 e0 n1 A1 l1 c1 e1
  have ix1 := rdx1 n0 A0 l0 c0 e0 n1 A1 l1 c1 e1
  obtain ⟨zfc0, zfc1, zfc2, zff0, zff1, zff2, zfl⟩ := zf.cells
  obtain ⟨zac0, zac1, zac2, zaf0, zaf1, zaf2, zal⟩ := za.cells
  obtain ⟨zbc0, zbc1, zbc2, zbf0, zbf1, zbf2, zbl⟩ := zb.cells
  go_wp2_with fail
  refine wp_loop_rounds 3 ?_
  rw [rounds_succ]
  go_wp2_with fail
  clear zfc0 zfc1 zfc2 zff0 zff1 zff2 zfl zac0 zac1 zac2 zaf0 zaf1 zaf2 zal zbc0 zbc1 zbc2 zbf0 zbf1 zbf2 zbl
  go_ret
  exact ⟨rfl, below_k BW _⟩
set_option maxRecDepth 100000 in
theorem rises_g10 {B P W M E H : Nat} {low : Int} (hf : Fm B P W M E H low) (mode : Int) {n0 : Bool} {A0 : Option Addr} {l0 c0 x0 : Nat} {e0 : Int} {n1 : Bool} {A1 : Option Addr} {l1 c1 x1 : Nat} {e1 : Int} {w : World} (h0 : Arg w A0 l0 c0 x0) (h1 : Arg w A1 l1 c1 x1) (hT : Tab w) (hF : Frm w) (m1 : decide (mode < 0) = false) (m2 : decide (5 ≤ mode) = false)  (gl0 : decide (40 < (l0 : Int)) = false) (g10 : decide (e0 < -1200) = true) :
    Calls Tryd.prog 5 #[.int .i64 (B : Int), .int .i64 mode, .agg #[.bool n0, .slice A0 l0 c0, .int .i64 e0], .agg #[.bool n1, .slice A1 l1 c1, .int .i64 e1]] w fun e w' => e = .returned (.bool true) ∧ Below w.heap.size w w' := by
  go_enter Tryd.func5, Tryd.ntmps5
  go_wp2_with fail
  obtain ⟨V, hV, za, zb, BW, sW⟩ := frame2 w 25 25 n0 A0 l0 c0 e0 n1 A1 l1 c1 e1
  rw [hV]
  clear hV sW
  replace hT := hT.on BW
  replace hF := hF.on BW
  replace h0 := h0.on BW
  replace h1 := h1.on BW
  refine (awake4_any hT hF).mono ?_
  rintro en w1 ⟨rfl, b⟩
  replace hT := hT.on b
  replace hF := hF.on b
  replace za := za.on b
  replace zb := zb.on b
  replace h0 := h0.on b
  replace h1 := h1.on b
  replace BW := Below.step BW b
  clear b
  go_wp2_with fail
  refine (of_fm hf _ hF).mono ?_
  rintro en w2 ⟨rfl, b⟩
  replace hT := hT.on b
  replace hF := hF.on b
  replace za := za.on b
  replace zb := zb.on b
  replace h0 := h0.on b
  replace h1 := h1.on b
  replace BW := Below.step BW b
  clear b
  obtain ⟨zac0, zac1, zac2, zaf0, zaf1, zaf2, zal⟩ := za.cells
  obtain ⟨zbc0, zbc1, zbc2, zbf0, zbf1, zbf2, zbl⟩ := zb.cells
  go_upto_region 4 with fail
  clear zac0 zac1 zac2 zaf0 zaf1 zaf2 zal zbc0 zbc1 zbc2 zbf0 zbf1 zbf2 zbl
  obtain ⟨w3, e_w3⟩ : ∃ w', w2.alloc (.cells #[.int .i64 (B : Int), .int .i64 (P : Int), .int .i64 (W : Int)] 28) = w' := ⟨_, rfl⟩
  have b : Below w2.heap.size w2 w3 := e_w3 ▸ below_lit _ _
  have hs_w3 : w3.heap.size = w2.heap.size + 1 := e_w3 ▸ size_lit w2 _ rfl
  have zf : FB w3 w2.heap.size 28 (B : Int) (P : Int) (W : Int) := e_w3 ▸ Box.made_at w2 rfl 28 (notU_int _) (notU_int _) (notU_int _)
  rw [e_w3]
  clear e_w3
  replace hT := hT.on b
  replace hF := hF.on b
  replace za := za.on b
  replace zb := zb.on b
  replace h0 := h0.on b
  replace h1 := h1.on b
  replace BW := Below.step BW b
  clear b
  clear hs_w3
  have ix0 := rdx0 n0 A0 l0 c0 e0 n1 A1 l1 c1 e1
  have ix1 := rdx1 n0 A0 l0 c0 e0 n1 A1 l1 c1 e1
  obtain ⟨zfc0, zfc1, zfc2, zff0, zff1, zff2, zfl⟩ := zf.cells
  obtain ⟨zac0, zac1, zac2, zaf0, zaf1, zaf2, zal⟩ := za.cells
  obtain ⟨zbc0, zbc1, zbc2, zbf0, zbf1, zbf2, zbl⟩ := zb.cells
  go_wp2_with fail
  refine wp_loop_rounds 3 ?_
  rw [rounds_succ]
  go_wp2_with fail
  clear zfc0 zfc1 zfc2 zff0 zff1 zff2 zfl zac0 zac1 zac2 zaf0 zaf1 zaf2 zal zbc0 zbc1 zbc2 zbf0 zbf1 zbf2 zbl
  go_ret
  exact ⟨rfl, below_k BW _⟩
set_option maxRecDepth 100000 in
theorem rises_g20 {B P W M E H : Nat} {low : Int} (hf : Fm B P W M E H low) (mode : Int) {n0 : Bool} {A0 : Option Addr} {l0 c0 x0 : Nat} {e0 : Int} {n1 : Bool} {A1 : Option Addr} {l1 c1 x1 : Nat} {e1 : Int} {w : World} (h0 : Arg w A0 l0 c0 x0) (h1 : Arg w A1 l1 c1 x1) (hT : Tab w) (hF : Frm w) (m1 : decide (mode < 0) = false) (m2 : decide (5 ≤ mode) = false)  (gl0 : decide (40 < (l0 : Int)) = false) (g10 : decide (e0 < -1200) = false) (g20 : decide (1100 < e0) = true) :
    Calls Tryd.prog 5 #[.int .i64 (B : Int), .int .i64 mode, .agg #[.bool n0, .slice A0 l0 c0, .int .i64 e0], .agg #[.bool n1, .slice A1 l1 c1, .int .i64 e1]] w fun e w' => e = .returned (.bool true) ∧ Below w.heap.size w w' := by
  go_enter Tryd.func5, Tryd.ntmps5
  go_wp2_with fail
  obtain ⟨V, hV, za, zb, BW, sW⟩ := frame2 w 25 25 n0 A0 l0 c0 e0 n1 A1 l1 c1 e1
  rw [hV]
  clear hV sW
  replace hT := hT.on BW
  replace hF := hF.on BW
  replace h0 := h0.on BW
  replace h1 := h1.on BW
  refine (awake4_any hT hF).mono ?_
  rintro en w1 ⟨rfl, b⟩
  replace hT := hT.on b
  replace hF := hF.on b
  replace za := za.on b
  replace zb := zb.on b
  replace h0 := h0.on b
  replace h1 := h1.on b
  replace BW := Below.step BW b
  clear b
  go_wp2_with fail
  refine (of_fm hf _ hF).mono ?_
  rintro en w2 ⟨rfl, b⟩
  replace hT := hT.on b
  replace hF := hF.on b
  replace za := za.on b
  replace zb := zb.on b
  replace h0 := h0.on b
  replace h1 := h1.on b
  replace BW := Below.step BW b
  clear b
  obtain ⟨zac0, zac1, zac2, zaf0, zaf1, zaf2, zal⟩ := za.cells
  obtain ⟨zbc0, zbc1, zbc2, zbf0, zbf1, zbf2, zbl⟩ := zb.cells
  go_upto_region 4 with fail
  clear zac0 zac1 zac2 zaf0 zaf1 zaf2 zal zbc0 zbc1 zbc2 zbf0 zbf1 zbf2 zbl
  obtain ⟨w3, e_w3⟩ : ∃ w', w2.alloc (.cells #[.int .i64 (B : Int), .int .i64 (P : Int), .int .i64 (W : Int)] 28) = w' := ⟨_, rfl⟩
  have b : Below w2.heap.size w2 w3 := e_w3 ▸ below_lit _ _
  have hs_w3 : w3.heap.size = w2.heap.size + 1 := e_w3 ▸ size_lit w2 _ rfl
  have zf : FB w3 w2.heap.size 28 (B : Int) (P : Int) (W : Int) := e_w3 ▸ Box.made_at w2 rfl 28 (notU_int _) (notU_int _) (notU_int _)
  rw [e_w3]
  clear e_w3
  replace hT := hT.on b
  replace hF := hF.on b
  replace za := za.on b
  replace zb := zb.on b
  replace h0 := h0.on b
  replace h1 := h1.on b
  replace BW := Below.step BW b
  clear b
  clear hs_w3
  have ix0 := rdx0 n0 A0 l0 c0 e0 n1 A1 l1 c1 e1
  have ix1 := rdx1 n0 A0 l0 c0 e0 n1 A1 l1 c1 e1
  obtain ⟨zfc0, zfc1, zfc2, zff0, zff1, zff2, zfl⟩ := zf.cells
  obtain ⟨zac0, zac1, zac2, zaf0, zaf1, zaf2, zal⟩ := za.cells
  obtain ⟨zbc0, zbc1, zbc2, zbf0, zbf1, zbf2, zbl⟩ := zb.cells
  go_wp2_with fail
  refine wp_loop_rounds 3 ?_
  rw [rounds_succ]
  go_wp2_with fail
  clear zfc0 zfc1 zfc2 zff0 zff1 zff2 zfl zac0 zac1 zac2 zaf0 zaf1 zaf2 zal zbc0 zbc1 zbc2 zbf0 zbf1 zbf2 zbl
  go_ret
  exact ⟨rfl, below_k BW _⟩
set_option maxRecDepth 100000 in
theorem rises_gl1 {B P W M E H : Nat} {low : Int} (hf : Fm B P W M E H low) (mode : Int) {n0 : Bool} {A0 : Option Addr} {l0 c0 x0 : Nat} {e0 : Int} {n1 : Bool} {A1 : Option Addr} {l1 c1 x1 : Nat} {e1 : Int} {w : World} (h0 : Arg w A0 l0 c0 x0) (h1 : Arg w A1 l1 c1 x1) (hT : Tab w) (hF : Frm w) (m1 : decide (mode < 0) = false) (m2 : decide (5 ≤ mode) = false) (gl0 : decide (40 < (l0 : Int)) = false) (g10 : decide (e0 < -1200) = false) (g20 : decide (1100 < e0) = false)  (gl1 : decide (40 < (l1 : Int)) = true) :
    Calls Tryd.prog 5 #[.int .i64 (B : Int), .int .i64 mode, .agg #[.bool n0, .slice A0 l0 c0, .int .i64 e0], .agg #[.bool n1, .slice A1 l1 c1, .int .i64 e1]] w fun e w' => e = .returned (.bool true) ∧ Below w.heap.size w w' := by
  go_enter Tryd.func5, Tryd.ntmps5
  go_wp2_with fail
  obtain ⟨V, hV, za, zb, BW, sW⟩ := frame2 w 25 25 n0 A0 l0 c0 e0 n1 A1 l1 c1 e1
  rw [hV]
  clear hV sW
  replace hT := hT.on BW
  replace hF := hF.on BW
  replace h0 := h0.on BW
  replace h1 := h1.on BW
  refine (awake4_any hT hF).mono ?_
  rintro en w1 ⟨rfl, b⟩
  replace hT := hT.on b
  replace hF := hF.on b
  replace za := za.on b
  replace zb := zb.on b
  replace h0 := h0.on b
  replace h1 := h1.on b
  replace BW := Below.step BW b
  clear b
  go_wp2_with fail
  refine (of_fm hf _ hF).mono ?_
  rintro en w2 ⟨rfl, b⟩
  replace hT := hT.on b
  replace hF := hF.on b
  replace za := za.on b
  replace zb := zb.on b
  replace h0 := h0.on b
  replace h1 := h1.on b
  replace BW := Below.step BW b
  clear b
  obtain ⟨zac0, zac1, zac2, zaf0, zaf1, zaf2, zal⟩ := za.cells
  obtain ⟨zbc0, zbc1, zbc2, zbf0, zbf1, zbf2, zbl⟩ := zb.cells
  go_upto_region 4 with fail
  clear zac0 zac1 zac2 zaf0 zaf1 zaf2 zal zbc0 zbc1 zbc2 zbf0 zbf1 zbf2 zbl
  obtain ⟨w3, e_w3⟩ : ∃ w', w2.alloc (.cells #[.int .i64 (B : Int), .int .i64 (P : Int), .int .i64 (W : Int)] 28) = w' := ⟨_, rfl⟩
  have b : Below w2.heap.size w2 w3 := e_w3 ▸ below_lit _ _
  have hs_w3 : w3.heap.size = w2.heap.size + 1 := e_w3 ▸ size_lit w2 _ rfl
  have zf : FB w3 w2.heap.size 28 (B : Int) (P : Int) (W : Int) := e_w3 ▸ Box.made_at w2 rfl 28 (notU_int _) (notU_int _) (notU_int _)
  rw [e_w3]
  clear e_w3
  replace hT := hT.on b
  replace hF := hF.on b
  replace za := za.on b
  replace zb := zb.on b
  replace h0 := h0.on b
  replace h1 := h1.on b
  replace BW := Below.step BW b
  clear b
  clear hs_w3
  have ix0 := rdx0 n0 A0 l0 c0 e0 n1 A1 l1 c1 e1
  have ix1 := rdx1 n0 A0 l0 c0 e0 n1 A1 l1 c1 e1
  obtain ⟨zfc0, zfc1, zfc2, zff0, zff1, zff2, zfl⟩ := zf.cells
  obtain ⟨zac0, zac1, zac2, zaf0, zaf1, zaf2, zal⟩ := za.cells
  obtain ⟨zbc0, zbc1, zbc2, zbf0, zbf1, zbf2, zbl⟩ := zb.cells
  go_wp2_with fail
  refine wp_loop_rounds 3 ?_
  rw [rounds_succ]
  go_wp2_with fail
  clear zfc0 zfc1 zfc2 zff0 zff1 zff2 zfl zac0 zac1 zac2 zaf0 zaf1 zaf2 zal zbc0 zbc1 zbc2 zbf0 zbf1 zbf2 zbl
  obtain ⟨w4, e_w4⟩ : ∃ w', w3.alloc (dob n0 A0 l0 c0 e0 25) = w' := ⟨_, rfl⟩
  have b : Below w3.heap.size w3 w4 := e_w4 ▸ below_lit _ _
  have hs_w4 : w4.heap.size = w3.heap.size + 1 := e_w4 ▸ size_lit w3 _ rfl
  have y0 : DB w4 w3.heap.size 25 n0 A0 l0 c0 e0 := e_w4 ▸ DB.made w3 rfl 25 n0 A0 l0 c0 e0
  rw [e_w4]
  clear e_w4
  replace hT := hT.on b
  replace hF := hF.on b
  replace za := za.on b
  replace zb := zb.on b
  replace h0 := h0.on b
  replace h1 := h1.on b
  replace zf := zf.on b
  replace BW := Below.step BW b
  clear b
  clear y0
  clear hs_w4
  rw [rounds_succ]
  go_wp2_with fail
  go_ret
  exact ⟨rfl, below_k BW _⟩
set_option maxRecDepth 100000 in
theorem rises_g11 {B P W M E H : Nat} {low : Int} (hf : Fm B P W M E H low) (mode : Int) {n0 : Bool} {A0 : Option Addr} {l0 c0 x0 : Nat} {e0 : Int} {n1 : Bool} {A1 : Option Addr} {l1 c1 x1 : Nat} {e1 : Int} {w : World} (h0 : Arg w A0 l0 c0 x0) (h1 : Arg w A1 l1 c1 x1) (hT : Tab w) (hF : Frm w) (m1 : decide (mode < 0) = false) (m2 : decide (5 ≤ mode) = false) (gl0 : decide (40 < (l0 : Int)) = false) (g10 : decide (e0 < -1200) = false) (g20 : decide (1100 < e0) = false) (gl1 : decide (40 < (l1 : Int)) = false) (g11 : decide (e1 < -1200) = true) :
    Calls Tryd.prog 5 #[.int .i64 (B : Int), .int .i64 mode, .agg #[.bool n0, .slice A0 l0 c0, .int .i64 e0], .agg #[.bool n1, .slice A1 l1 c1, .int .i64 e1]] w fun e w' => e = .returned (.bool true) ∧ Below w.heap.size w w' := by
  go_enter Tryd.func5, Tryd.ntmps5
  go_wp2_with fail
  obtain ⟨V, hV, za, zb, BW, sW⟩ := frame2 w 25 25 n0 A0 l0 c0 e0 n1 A1 l1 c1 e1
  rw [hV]
  clear hV sW
  replace hT := hT.on BW
  replace hF := hF.on BW
  replace h0 := h0.on BW
  replace h1 := h1.on BW
  refine (awake4_any hT hF).mono ?_
  rintro en w1 ⟨rfl, b⟩
  replace hT := hT.on b
  replace hF := hF.on b
  replace za := za.on b
  replace zb := zb.on b
  replace h0 := h0.on b
  replace h1 := h1.on b
  replace BW := Below.step BW b
  clear b
  go_wp2_with fail
  refine (of_fm hf _ hF).mono ?_
  rintro en w2 ⟨rfl, b⟩
  replace hT := hT.on b
  replace hF := hF.on b
  replace za := za.on b
  replace zb := zb.on b
  replace h0 := h0.on b
  replace h1 := h1.on b
  replace BW := Below.step BW b
  clear b
  obtain ⟨zac0, zac1, zac2, zaf0, zaf1, zaf2, zal⟩ := za.cells
  obtain ⟨zbc0, zbc1, zbc2, zbf0, zbf1, zbf2, zbl⟩ := zb.cells
  go_upto_region 4 with fail
  clear zac0 zac1 zac2 zaf0 zaf1 zaf2 zal zbc0 zbc1 zbc2 zbf0 zbf1 zbf2 zbl
  obtain ⟨w3, e_w3⟩ : ∃ w', w2.alloc (.cells #[.int .i64 (B : Int), .int .i64 (P : Int), .int .i64 (W : Int)] 28) = w' := ⟨_, rfl⟩
  have b : Below w2.heap.size w2 w3 := e_w3 ▸ below_lit _ _
  have hs_w3 : w3.heap.size = w2.heap.size + 1 := e_w3 ▸ size_lit w2 _ rfl
  have zf : FB w3 w2.heap.size 28 (B : Int) (P : Int) (W : Int) := e_w3 ▸ Box.made_at w2 rfl 28 (notU_int _) (notU_int _) (notU_int _)
  rw [e_w3]
  clear e_w3
  replace hT := hT.on b
  replace hF := hF.on b
  replace za := za.on b
  replace zb := zb.on b
  replace h0 := h0.on b
  replace h1 := h1.on b
  replace BW := Below.step BW b
  clear b
  clear hs_w3
  have ix0 := rdx0 n0 A0 l0 c0 e0 n1 A1 l1 c1 e1
  have ix1 := rdx1 n0 A0 l0 c0 e0 n1 A1 l1 c1 e1
  obtain ⟨zfc0, zfc1, zfc2, zff0, zff1, zff2, zfl⟩ := zf.cells
  obtain ⟨zac0, zac1, zac2, zaf0, zaf1, zaf2, zal⟩ := za.cells
  obtain ⟨zbc0, zbc1, zbc2, zbf0, zbf1, zbf2, zbl⟩ := zb.cells
  go_wp2_with fail
  refine wp_loop_rounds 3 ?_
  rw [rounds_succ]
  go_wp2_with fail
  clear zfc0 zfc1 zfc2 zff0 zff1 zff2 zfl zac0 zac1 zac2 zaf0 zaf1 zaf2 zal zbc0 zbc1 zbc2 zbf0 zbf1 zbf2 zbl
  obtain ⟨w4, e_w4⟩ : ∃ w', w3.alloc (dob n0 A0 l0 c0 e0 25) = w' := ⟨_, rfl⟩
  have b : Below w3.heap.size w3 w4 := e_w4 ▸ below_lit _ _
  have hs_w4 : w4.heap.size = w3.heap.size + 1 := e_w4 ▸ size_lit w3 _ rfl
  have y0 : DB w4 w3.heap.size 25 n0 A0 l0 c0 e0 := e_w4 ▸ DB.made w3 rfl 25 n0 A0 l0 c0 e0
  rw [e_w4]
  clear e_w4
  replace hT := hT.on b
  replace hF := hF.on b
  replace za := za.on b
  replace zb := zb.on b
  replace h0 := h0.on b
  replace h1 := h1.on b
  replace zf := zf.on b
  replace BW := Below.step BW b
  clear b
  clear y0
  clear hs_w4
  rw [rounds_succ]
  go_wp2_with fail
  go_ret
  exact ⟨rfl, below_k BW _⟩
set_option maxRecDepth 100000 in
theorem rises_g21 {B P W M E H : Nat} {low : Int} (hf : Fm B P W M E H low) (mode : Int) {n0 : Bool} {A0 : Option Addr} {l0 c0 x0 : Nat} {e0 : Int} {n1 : Bool} {A1 : Option Addr} {l1 c1 x1 : Nat} {e1 : Int} {w : World} (h0 : Arg w A0 l0 c0 x0) (h1 : Arg w A1 l1 c1 x1) (hT : Tab w) (hF : Frm w) (m1 : decide (mode < 0) = false) (m2 : decide (5 ≤ mode) = false) (gl0 : decide (40 < (l0 : Int)) = false) (g10 : decide (e0 < -1200) = false) (g20 : decide (1100 < e0) = false) (gl1 : decide (40 < (l1 : Int)) = false) (g11 : decide (e1 < -1200) = false) (g21 : decide (1100 < e1) = true) :
    Calls Tryd.prog 5 #[.int .i64 (B : Int), .int .i64 mode, .agg #[.bool n0, .slice A0 l0 c0, .int .i64 e0], .agg #[.bool n1, .slice A1 l1 c1, .int .i64 e1]] w fun e w' => e = .returned (.bool true) ∧ Below w.heap.size w w' := by
  go_enter Tryd.func5, Tryd.ntmps5
  go_wp2_with fail
  obtain ⟨V, hV, za, zb, BW, sW⟩ := frame2 w 25 25 n0 A0 l0 c0 e0 n1 A1 l1 c1 e1
  rw [hV]
  clear hV sW
  replace hT := hT.on BW
  replace hF := hF.on BW
  replace h0 := h0.on BW
  replace h1 := h1.on BW
  refine (awake4_any hT hF).mono ?_
  rintro en w1 ⟨rfl, b⟩
  replace hT := hT.on b
  replace hF := hF.on b
  replace za := za.on b
  replace zb := zb.on b
  replace h0 := h0.on b
  replace h1 := h1.on b
  replace BW := Below.step BW b
  clear b
  go_wp2_with fail
  refine (of_fm hf _ hF).mono ?_
  rintro en w2 ⟨rfl, b⟩
  replace hT := hT.on b
  replace hF := hF.on b
  replace za := za.on b
  replace zb := zb.on b
  replace h0 := h0.on b
  replace h1 := h1.on b
  replace BW := Below.step BW b
  clear b
  obtain ⟨zac0, zac1, zac2, zaf0, zaf1, zaf2, zal⟩ := za.cells
  obtain ⟨zbc0, zbc1, zbc2, zbf0, zbf1, zbf2, zbl⟩ := zb.cells
  go_upto_region 4 with fail
  clear zac0 zac1 zac2 zaf0 zaf1 zaf2 zal zbc0 zbc1 zbc2 zbf0 zbf1 zbf2 zbl
  obtain ⟨w3, e_w3⟩ : ∃ w', w2.alloc (.cells #[.int .i64 (B : Int), .int .i64 (P : Int), .int .i64 (W : Int)] 28) = w' := ⟨_, rfl⟩
  have b : Below w2.heap.size w2 w3 := e_w3 ▸ below_lit _ _
  have hs_w3 : w3.heap.size = w2.heap.size + 1 := e_w3 ▸ size_lit w2 _ rfl
  have zf : FB w3 w2.heap.size 28 (B : Int) (P : Int) (W : Int) := e_w3 ▸ Box.made_at w2 rfl 28 (notU_int _) (notU_int _) (notU_int _)
  rw [e_w3]
  clear e_w3
  replace hT := hT.on b
  replace hF := hF.on b
  replace za := za.on b
  replace zb := zb.on b
  replace h0 := h0.on b
  replace h1 := h1.on b
  replace BW := Below.step BW b
  clear b
  clear hs_w3
  have ix0 := rdx0 n0 A0 l0 c0 e0 n1 A1 l1 c1 e1
  have ix1 := rdx1 n0 A0 l0 c0 e0 n1 A1 l1 c1 e1
  obtain ⟨zfc0, zfc1, zfc2, zff0, zff1, zff2, zfl⟩ := zf.cells
  obtain ⟨zac0, zac1, zac2, zaf0, zaf1, zaf2, zal⟩ := za.cells
  obtain ⟨zbc0, zbc1, zbc2, zbf0, zbf1, zbf2, zbl⟩ := zb.cells
  go_wp2_with fail
  refine wp_loop_rounds 3 ?_
  rw [rounds_succ]
  go_wp2_with fail
  clear zfc0 zfc1 zfc2 zff0 zff1 zff2 zfl zac0 zac1 zac2 zaf0 zaf1 zaf2 zal zbc0 zbc1 zbc2 zbf0 zbf1 zbf2 zbl
  obtain ⟨w4, e_w4⟩ : ∃ w', w3.alloc (dob n0 A0 l0 c0 e0 25) = w' := ⟨_, rfl⟩
  have b : Below w3.heap.size w3 w4 := e_w4 ▸ below_lit _ _
  have hs_w4 : w4.heap.size = w3.heap.size + 1 := e_w4 ▸ size_lit w3 _ rfl
  have y0 : DB w4 w3.heap.size 25 n0 A0 l0 c0 e0 := e_w4 ▸ DB.made w3 rfl 25 n0 A0 l0 c0 e0
  rw [e_w4]
  clear e_w4
  replace hT := hT.on b
  replace hF := hF.on b
  replace za := za.on b
  replace zb := zb.on b
  replace h0 := h0.on b
  replace h1 := h1.on b
  replace zf := zf.on b
  replace BW := Below.step BW b
  clear b
  clear y0
  clear hs_w4
  rw [rounds_succ]
  go_wp2_with fail
  go_ret
  exact ⟨rfl, below_k BW _⟩
set_option maxHeartbeats 4000000 in
set_option maxRecDepth 100000 in
theorem rises_main {B P W M E H : Nat} {low : Int} (hf : Fm B P W M E H low) (mode : Int) {n0 : Bool} {A0 : Option Addr} {l0 c0 x0 : Nat} {e0 : Int} {n1 : Bool} {A1 : Option Addr} {l1 c1 x1 : Nat} {e1 : Int} {w : World} (h0 : Arg w A0 l0 c0 x0) (h1 : Arg w A1 l1 c1 x1) (hT : Tab w) (hF : Frm w) (m1 : decide (mode < 0) = false) (m2 : decide (5 ≤ mode) = false) (gl0 : decide (40 < (l0 : Int)) = false) (g10 : decide (e0 < -1200) = false) (g20 : decide (1100 < e0) = false) (gl1 : decide (40 < (l1 : Int)) = false) (g11 : decide (e1 < -1200) = false) (g21 : decide (1100 < e1) = false) {u v : Nat} {fu fv qx qy qz : Int} (HA : Hid (roundS P M E H low mode ⟨n0, x0, e0⟩ false = (u, fu, 0))) (HB : Hid (roundS P M E H low mode ⟨n1, x1, e1⟩ false = (v, fv, 0)))
    (HX : Hid (cmpS ⟨n0, x0, e0⟩ ⟨n1, x1, e1⟩ = (qx, 0))) {un vn : Bool} {ux vx : Nat} {ue ve : Int} (mu : D.may ⟨un, ux, ue⟩ = true) (mv : D.may ⟨vn, vx, ve⟩ = true)
    (HU : Hid (∀ w : World, Tab w → Calls Tryd.prog 22 #[.agg #[.int .i64 (B : Int), .int .i64 (P : Int), .int .i64 (W : Int)], .int .u64 (u : Int)] w (PlX w un ux ue))) (HV : Hid (∀ w : World, Tab w → Calls Tryd.prog 22 #[.agg #[.int .i64 (B : Int), .int .i64 (P : Int), .int .i64 (W : Int)], .int .u64 (v : Int)] w (PlX w vn vx ve)))
    (HY : Hid (cmpS ⟨un, ux, ue⟩ ⟨vn, vx, ve⟩ = (qy, 0))) (HZ : Hid (cmpS ⟨un, ux, ue⟩ ⟨n0, x0, e0⟩ = (qz, 0)))
    (HC : Hid ((qx = -1 ∧ decide (0 < qy) = false) ∨ (qx = 1 ∧ decide (qy < 0) = false) ∨ (qx = 0 ∧ (qy != 0) = false)))
    (HM : Hid ((mode = 2 ∧ decide (qz ≤ 0) = true) ∨ (mode = 3 ∧ decide (0 ≤ qz) = true) ∨ (mode = 1 ∧ n0 = true ∧ decide (0 ≤ qz) = true) ∨ (mode = 1 ∧ n0 = false ∧ decide (qz ≤ 0) = true) ∨ ((mode == 2) = false ∧ (mode == 3) = false ∧ (mode == 1) = false))) :
    Calls Tryd.prog 5 #[.int .i64 (B : Int), .int .i64 mode, .agg #[.bool n0, .slice A0 l0 c0, .int .i64 e0], .agg #[.bool n1, .slice A1 l1 c1, .int .i64 e1]] w fun e w' => e = .returned (.bool true) ∧ Below w.heap.size w w' := by
  have gl0' := of_decide_eq_false gl0
  have gl1' := of_decide_eq_false gl1
  go_enter Tryd.func5, Tryd.ntmps5
  go_wp2_with fail
  obtain ⟨V, hV, za, zb, BW, sW⟩ := frame2 w 25 25 n0 A0 l0 c0 e0 n1 A1 l1 c1 e1
  rw [hV]
  clear hV sW
  replace hT := hT.on BW
  replace hF := hF.on BW
  replace h0 := h0.on BW
  replace h1 := h1.on BW
  refine (awake4_any hT hF).mono ?_
  rintro en w1 ⟨rfl, b⟩
  replace hT := hT.on b
  replace hF := hF.on b
  replace za := za.on b
  replace zb := zb.on b
  replace h0 := h0.on b
  replace h1 := h1.on b
  replace BW := Below.step BW b
  clear b
  go_wp2_with fail
  refine (of_fm hf _ hF).mono ?_
  rintro en w2 ⟨rfl, b⟩
  replace hT := hT.on b
  replace hF := hF.on b
  replace za := za.on b
  replace zb := zb.on b
  replace h0 := h0.on b
  replace h1 := h1.on b
  replace BW := Below.step BW b
  clear b
  obtain ⟨zac0, zac1, zac2, zaf0, zaf1, zaf2, zal⟩ := za.cells
  obtain ⟨zbc0, zbc1, zbc2, zbf0, zbf1, zbf2, zbl⟩ := zb.cells
  go_upto_region 4 with fail
  clear zac0 zac1 zac2 zaf0 zaf1 zaf2 zal zbc0 zbc1 zbc2 zbf0 zbf1 zbf2 zbl
  obtain ⟨w3, e_w3⟩ : ∃ w', w2.alloc (.cells #[.int .i64 (B : Int), .int .i64 (P : Int), .int .i64 (W : Int)] 28) = w' := ⟨_, rfl⟩
  have b : Below w2.heap.size w2 w3 := e_w3 ▸ below_lit _ _
  have hs_w3 : w3.heap.size = w2.heap.size + 1 := e_w3 ▸ size_lit w2 _ rfl
  have zf : FB w3 w2.heap.size 28 (B : Int) (P : Int) (W : Int) := e_w3 ▸ Box.made_at w2 rfl 28 (notU_int _) (notU_int _) (notU_int _)
  rw [e_w3]
  clear e_w3
  replace hT := hT.on b
  replace hF := hF.on b
  replace za := za.on b
  replace zb := zb.on b
  replace h0 := h0.on b
  replace h1 := h1.on b
  replace BW := Below.step BW b
  clear b
  clear hs_w3
  have ix0 := rdx0 n0 A0 l0 c0 e0 n1 A1 l1 c1 e1
  have ix1 := rdx1 n0 A0 l0 c0 e0 n1 A1 l1 c1 e1
  obtain ⟨zfc0, zfc1, zfc2, zff0, zff1, zff2, zfl⟩ := zf.cells
  obtain ⟨zac0, zac1, zac2, zaf0, zaf1, zaf2, zal⟩ := za.cells
  obtain ⟨zbc0, zbc1, zbc2, zbf0, zbf1, zbf2, zbl⟩ := zb.cells
  go_wp2_with fail
  refine wp_loop_rounds 3 ?_
  rw [rounds_succ]
  go_wp2_with fail
  clear zfc0 zfc1 zfc2 zff0 zff1 zff2 zfl zac0 zac1 zac2 zaf0 zaf1 zaf2 zal zbc0 zbc1 zbc2 zbf0 zbf1 zbf2 zbl
  obtain ⟨w4, e_w4⟩ : ∃ w', w3.alloc (dob n0 A0 l0 c0 e0 25) = w' := ⟨_, rfl⟩
  have b : Below w3.heap.size w3 w4 := e_w4 ▸ below_lit _ _
  have hs_w4 : w4.heap.size = w3.heap.size + 1 := e_w4 ▸ size_lit w3 _ rfl
  have y0 : DB w4 w3.heap.size 25 n0 A0 l0 c0 e0 := e_w4 ▸ DB.made w3 rfl 25 n0 A0 l0 c0 e0
  rw [e_w4]
  clear e_w4
  replace hT := hT.on b
  replace hF := hF.on b
  replace za := za.on b
  replace zb := zb.on b
  replace h0 := h0.on b
  replace h1 := h1.on b
  replace zf := zf.on b
  replace BW := Below.step BW b
  clear b
  clear y0
  clear hs_w4
  rw [rounds_succ]
  go_wp2_with fail
  obtain ⟨w5, e_w5⟩ : ∃ w', w4.alloc (dob n1 A1 l1 c1 e1 25) = w' := ⟨_, rfl⟩
  have b : Below w4.heap.size w4 w5 := e_w5 ▸ below_lit _ _
  have hs_w5 : w5.heap.size = w4.heap.size + 1 := e_w5 ▸ size_lit w4 _ rfl
  have y1 : DB w5 w4.heap.size 25 n1 A1 l1 c1 e1 := e_w5 ▸ DB.made w4 rfl 25 n1 A1 l1 c1 e1
  rw [e_w5]
  clear e_w5
  replace hT := hT.on b
  replace hF := hF.on b
  replace za := za.on b
  replace zb := zb.on b
  replace h0 := h0.on b
  replace h1 := h1.on b
  replace zf := zf.on b
  replace BW := Below.step BW b
  clear b
  clear y1
  clear hs_w5
  clear ix0 ix1
  rw [rounds_succ]
  obtain ⟨zfc0, zfc1, zfc2, zff0, zff1, zff2, zfl⟩ := zf.cells
  obtain ⟨zac0, zac1, zac2, zaf0, zaf1, zaf2, zal⟩ := za.cells
  obtain ⟨zbc0, zbc1, zbc2, zbf0, zbf1, zbf2, zbl⟩ := zb.cells
  go_wp2_with fail
  refine (to_as hf h0 (by omega) hT _ false HA.out).mono ?_
  rintro en w6 ⟨rfl, b⟩
  clear zfc0 zfc1 zfc2 zff0 zff1 zff2 zfl zac0 zac1 zac2 zaf0 zaf1 zaf2 zal zbc0 zbc1 zbc2 zbf0 zbf1 zbf2 zbl
  replace hT := hT.on b
  replace hF := hF.on b
  replace za := za.on b
  replace zb := zb.on b
  replace h0 := h0.on b
  replace h1 := h1.on b
  replace zf := zf.on b
  replace BW := Below.step BW b
  clear b
  obtain ⟨zfc0, zfc1, zfc2, zff0, zff1, zff2, zfl⟩ := zf.cells
  obtain ⟨zbc0, zbc1, zbc2, zbf0, zbf1, zbf2, zbl⟩ := zb.cells
  go_wp2_with fail
  refine (to_as hf h1 (by omega) hT _ false HB.out).mono ?_
  rintro en w7 ⟨rfl, b⟩
  clear zfc0 zfc1 zfc2 zff0 zff1 zff2 zfl zbc0 zbc1 zbc2 zbf0 zbf1 zbf2 zbl
  replace hT := hT.on b
  replace hF := hF.on b
  replace za := za.on b
  replace zb := zb.on b
  replace h0 := h0.on b
  replace h1 := h1.on b
  replace zf := zf.on b
  replace BW := Below.step BW b
  clear b
  obtain ⟨zac0, zac1, zac2, zaf0, zaf1, zaf2, zal⟩ := za.cells
  obtain ⟨zbc0, zbc1, zbc2, zbf0, zbf1, zbf2, zbl⟩ := zb.cells
  go_wp2_with fail
  refine (dcmp_as h0 h1 (by omega) (by omega) hT HX.out).mono ?_
  rintro en w8 ⟨rfl, b⟩
  clear zac0 zac1 zac2 zaf0 zaf1 zaf2 zal zbc0 zbc1 zbc2 zbf0 zbf1 zbf2 zbl
  replace hT := hT.on b
  replace hF := hF.on b
  replace za := za.on b
  replace zb := zb.on b
  replace h0 := h0.on b
  replace h1 := h1.on b
  replace zf := zf.on b
  replace BW := Below.step BW b
  clear b
  go_upto_region 17 with fail
  replace hT := hT.on ((Below.refl _ _).drew : Below w8.heap.size w8 w8.drew)
  replace hF := hF.on ((Below.refl _ _).drew : Below w8.heap.size w8 w8.drew)
  replace za := za.on ((Below.refl _ _).drew : Below w8.heap.size w8 w8.drew)
  replace zb := zb.on ((Below.refl _ _).drew : Below w8.heap.size w8 w8.drew)
  replace h0 := h0.on ((Below.refl _ _).drew : Below w8.heap.size w8 w8.drew)
  replace h1 := h1.on ((Below.refl _ _).drew : Below w8.heap.size w8 w8.drew)
  replace zf := zf.on ((Below.refl _ _).drew : Below w8.heap.size w8 w8.drew)
  replace BW := Lib.hid (Below.step BW ((Below.refl _ _).drew : Below w8.heap.size w8 w8.drew))
  go_region_held3 (fun w' => w'.cell? ⟨w2.heap.size, 0, none⟩ = some (.int .i64 (B : Int)) ∧ w'.cell? ⟨w2.heap.size, 1, none⟩ = some (.int .i64 (P : Int)) ∧ w'.cell? ⟨w2.heap.size, 2, none⟩ = some (.int .i64 (W : Int)))
    ((exact ⟨zf.cells.1, zf.cells.2.1, zf.cells.2.2.1⟩))
    (first
      | (go_at_call 22
         (with_reducible refine (HU.out _ hT).mono ?_)
         rintro en w9 ⟨V_ru, v_ru, rfl, ru, b⟩
         replace hT := hT.on b
         replace hF := hF.on b
         replace za := za.on b
         replace zb := zb.on b
         replace h0 := h0.on b
         replace h1 := h1.on b
         replace zf := zf.on b
         replace BW := Lib.hid (Below.step BW.out b)
         have lru := res_n_le ru (k := 128) ((D.may_iff _).1 mu).1
         clear b)
      | (go_at_call 22
         (with_reducible refine (HV.out _ hT).mono ?_)
         rintro en w10 ⟨V_rv, v_rv, rfl, rv, b⟩
         replace hT := hT.on b
         replace hF := hF.on b
         replace za := za.on b
         replace zb := zb.on b
         replace h0 := h0.on b
         replace h1 := h1.on b
         replace zf := zf.on b
         replace ru := ru.on b
         replace BW := Lib.hid (Below.step BW.out b)
         have lrv := res_n_le rv (k := 128) ((D.may_iff _).1 mv).1
         clear b)
      | (go_at_call 21
         (with_reducible refine (dcmp_as (ru.arg (by omega)) (rv.arg (by omega)) (by omega) (by omega) hT HY.out).mono ?_)
         rintro en w11 ⟨rfl, b⟩
         replace hT := hT.on b
         replace hF := hF.on b
         replace za := za.on b
         replace zb := zb.on b
         replace h0 := h0.on b
         replace h1 := h1.on b
         replace zf := zf.on b
         replace ru := ru.on b
         replace rv := rv.on b
         replace BW := Lib.hid (Below.step BW.out b)
         clear b))
  replace BW := BW.out
  all_goals (
    clear ru rv
    clear lru lrv
    go_upto_region 18 with fail
    replace hT := hT.on ((Below.refl _ _).drew : Below w11.heap.size w11 w11.drew)
    replace hF := hF.on ((Below.refl _ _).drew : Below w11.heap.size w11 w11.drew)
    replace za := za.on ((Below.refl _ _).drew : Below w11.heap.size w11 w11.drew)
    replace zb := zb.on ((Below.refl _ _).drew : Below w11.heap.size w11 w11.drew)
    replace h0 := h0.on ((Below.refl _ _).drew : Below w11.heap.size w11 w11.drew)
    replace h1 := h1.on ((Below.refl _ _).drew : Below w11.heap.size w11 w11.drew)
    replace zf := zf.on ((Below.refl _ _).drew : Below w11.heap.size w11 w11.drew)
    replace BW := Lib.hid (Below.step BW ((Below.refl _ _).drew : Below w11.heap.size w11 w11.drew))
    go_region_held3 (fun w' => w'.cell? ⟨w2.heap.size, 0, none⟩ = some (.int .i64 (B : Int)) ∧ w'.cell? ⟨w2.heap.size, 1, none⟩ = some (.int .i64 (P : Int)) ∧ w'.cell? ⟨w2.heap.size, 2, none⟩ = some (.int .i64 (W : Int)) ∧ w'.cell? ⟨w.heap.size, 0, none⟩ = some (.bool n0) ∧ w'.cell? ⟨w.heap.size, 1, none⟩ = some (.slice A0 l0 c0) ∧ w'.cell? ⟨w.heap.size, 2, none⟩ = some (.int .i64 e0))
      ((exact ⟨zf.cells.1, zf.cells.2.1, zf.cells.2.2.1, za.cells.1, za.cells.2.1, za.cells.2.2.1⟩))
      (first
        | (go_at_call 22
           (with_reducible refine (HU.out _ hT).mono ?_)
           rintro en w12 ⟨V_ru, v_ru, rfl, ru, b⟩
           replace hT := hT.on b
           replace hF := hF.on b
           replace za := za.on b
           replace zb := zb.on b
           replace h0 := h0.on b
           replace h1 := h1.on b
           replace zf := zf.on b
           replace BW := Lib.hid (Below.step BW.out b)
           have lru := res_n_le ru (k := 128) ((D.may_iff _).1 mu).1
           clear b)
        | (go_at_call 21
           (with_reducible refine (dcmp_as (ru.arg (by omega)) h0 (by omega) (by omega) hT HZ.out).mono ?_)
           rintro en w13 ⟨rfl, b⟩
           replace hT := hT.on b
           replace hF := hF.on b
           replace za := za.on b
           replace zb := zb.on b
           replace h0 := h0.on b
           replace h1 := h1.on b
           replace zf := zf.on b
           replace ru := ru.on b
           replace BW := Lib.hid (Below.step BW.out b)
           clear b))
    replace BW := BW.out
    all_goals (
      obtain ⟨zac0, zac1, zac2, zaf0, zaf1, zaf2, zal⟩ := za.cells
      rcases HC.out with ⟨rfl, y1⟩ | ⟨rfl, y1⟩ | ⟨rfl, y1⟩
      all_goals rcases HM.out with ⟨rfl, y2⟩ | ⟨rfl, y2⟩ | ⟨rfl, rfl, y2⟩ | ⟨rfl, rfl, y2⟩ | ⟨y2, y3, y4⟩
      all_goals (
        go_wp2_with fail
        go_ret
        exact ⟨rfl, BW⟩)))
theorem rises_walk (bits mode : Int) {n0 : Bool} {A0 : Option Addr} {l0 c0 x0 : Nat} {e0 : Int} {n1 : Bool} {A1 : Option Addr} {l1 c1 x1 : Nat} {e1 : Int} {w : World} (h0 : Arg w A0 l0 c0 x0) (h1 : Arg w A1 l1 c1 x1) (hT : Tab w) (hF : Frm w) :
    Calls Tryd.prog 5 #[.int .i64 bits, .int .i64 mode, .agg #[.bool n0, .slice A0 l0 c0, .int .i64 e0], .agg #[.bool n1, .slice A1 l1 c1, .int .i64 e1]] w fun e w' => e = .returned (.bool true) ∧ Below w.heap.size w w' := by
  rcases fm_of bits with ⟨B, P, W, M, E, H, low, hf, rfl⟩ | ⟨b1, b2, b3⟩
  · by_cases m1 : mode < 0
    · exact rises_m1 hf mode h0 h1 hT hF (decide_eq_true m1)
    by_cases m2 : 5 ≤ mode
    · exact rises_m2 hf mode h0 h1 hT hF (decide_eq_false m1) (decide_eq_true m2)
    have m1' := decide_eq_false m1
    have m2' := decide_eq_false m2
    by_cases gl0 : 40 < (l0 : Int)
    · exact rises_gl0 hf mode h0 h1 hT hF m1' m2' (decide_eq_true gl0)
    by_cases g10 : e0 < -1200
    · exact rises_g10 hf mode h0 h1 hT hF m1' m2' (decide_eq_false gl0) (decide_eq_true g10)
    by_cases g20 : 1100 < e0
    · exact rises_g20 hf mode h0 h1 hT hF m1' m2' (decide_eq_false gl0) (decide_eq_false g10) (decide_eq_true g20)
    by_cases gl1 : 40 < (l1 : Int)
    · exact rises_gl1 hf mode h0 h1 hT hF m1' m2' (decide_eq_false gl0) (decide_eq_false g10) (decide_eq_false g20) (decide_eq_true gl1)
    by_cases g11 : e1 < -1200
    · exact rises_g11 hf mode h0 h1 hT hF m1' m2' (decide_eq_false gl0) (decide_eq_false g10) (decide_eq_false g20) (decide_eq_false gl1) (decide_eq_true g11)
    by_cases g21 : 1100 < e1
    · exact rises_g21 hf mode h0 h1 hT hF m1' m2' (decide_eq_false gl0) (decide_eq_false g10) (decide_eq_false g20) (decide_eq_false gl1) (decide_eq_false g11) (decide_eq_true g21)
    have hx0 := h0.blen
    have hx1 := h1.blen
    obtain ⟨k1, k2, k3, k4⟩ := law_may (a := ⟨n0, x0, e0⟩) (by simp only; omega) (by simp only; omega) (by simp only; omega)
    obtain ⟨j1, j2, j3, j4⟩ := law_may (a := ⟨n1, x1, e1⟩) (by simp only; omega) (by simp only; omega) (by simp only; omega)
    have hmode : 0 ≤ mode ∧ mode ≤ 4 := ⟨by omega, by omega⟩
    obtain ⟨su, ku, u1, u2, u3, u4⟩ := round_vl hf hmode k2
    obtain ⟨sv, kv, v1, v2, v3, v4⟩ := round_vl hf hmode j2
    obtain ⟨⟨u, fu, eu⟩, hu⟩ : ∃ r, roundS P M E H low mode ⟨n0, x0, e0⟩ false = r := ⟨_, rfl⟩
    obtain ⟨⟨v, fv, ev⟩, hv⟩ : ∃ r, roundS P M E H low mode ⟨n1, x1, e1⟩ false = r := ⟨_, rfl⟩
    rw [hu] at u2 u3
    rw [hv] at v2 v3
    simp only at u2 u3 v2 v3
    subst u3 v3
    obtain ⟨un, ux, ue, mu, lu, wu⟩ := lvalue_as hf su ku u1 u2.symm
    obtain ⟨vn, vx, ve, mv, lv, wv⟩ := lvalue_as hf sv kv v1 v2.symm
    rw [u4] at lu
    rw [v4] at lv
    obtain ⟨c1, c2, c3⟩ := cmp_rises hf mode (⟨n0, x0, e0⟩ : D).vl (⟨n1, x1, e1⟩ : D).vl
    have e1' := cmpS_ok k1 j1
    have e2' := cmpS_ok mu mv
    have e3' := cmpS_ok mu k1
    rw [lu, lv] at e2'
    rw [lu] at e3'
    have hsg : (⟨n0, x0, e0⟩ : D).vl < 0 ↔ n0 = true ∧ x0 ≠ 0 := D.vl_neg
    have hz0 : (⟨n0, x0, e0⟩ : D).vl = 0 ↔ x0 = 0 := D.vl_zero
    have dn := cmp_down hf k4
    have du := cmp_up hf k4
    have dz := cmp_zero hf (⟨n0, x0, e0⟩ : D).vl
    have hr0 : x0 = 0 → cmpI (rndZ P M E low BIG 1 (⟨n0, x0, e0⟩ : D).vl) (⟨n0, x0, e0⟩ : D).vl = 0 := fun h => by
      rw [hz0.2 h]
      have hME := ME_lt hf
      have : rndZ P M E low BIG 1 0 = 0 := by
        rw [rndZ_pos P M E low BIG 1 (by omega)]
        show ((szC M E low BIG (rndC P M E low 1 false 0) : Nat) : Int) = 0
        rw [rndC_zero hf]
        unfold szC
        rw [if_neg (by omega), valU_zero hf]
        rfl
      rw [this]
      unfold cmpI
      simp
    have hxc := cmpI_cases (⟨n0, x0, e0⟩ : D).vl (⟨n1, x1, e1⟩ : D).vl
    generalize (⟨n0, x0, e0⟩ : D).vl = z0 at *
    generalize (⟨n1, x1, e1⟩ : D).vl = z1 at *
    obtain ⟨qx, hqx⟩ : ∃ q, cmpI z0 z1 = q := ⟨_, rfl⟩
    obtain ⟨qy, hqy⟩ : ∃ q, cmpI (rndZ P M E low BIG mode z0) (rndZ P M E low BIG mode z1) = q := ⟨_, rfl⟩
    obtain ⟨qz, hqz⟩ : ∃ q, cmpI (rndZ P M E low BIG mode z0) z0 = q := ⟨_, rfl⟩
    rw [hqx] at c1 c2 c3 e1' hxc
    rw [hqy] at c1 c2 c3 e2'
    rw [hqz] at e3'
    refine rises_main hf mode h0 h1 hT hF m1' m2' (decide_eq_false gl0) (decide_eq_false g10) (decide_eq_false g20) (decide_eq_false gl1) (decide_eq_false g11) (decide_eq_false g21) (Lib.hid hu) (Lib.hid hv) (Lib.hid e1') mu mv (Lib.hid wu) (Lib.hid wv) (Lib.hid e2') (Lib.hid e3') (Lib.hid ?_) (Lib.hid ?_)
    · rcases (show qx = -1 ∨ qx = 1 ∨ qx = 0 by omega) with h | h | h
      · exact .inl ⟨h, decide_eq_false (c1 (by omega))⟩
      · exact .inr (.inl ⟨h, decide_eq_false (c2 (by omega))⟩)
      · exact .inr (.inr ⟨h, by rw [c3 h]; rfl⟩)
    · by_cases h2 : mode = 2
      · subst h2
        rw [hqz] at dn
        exact .inl ⟨rfl, decide_eq_true dn⟩
      by_cases h3 : mode = 3
      · subst h3
        rw [hqz] at du
        exact .inr (.inl ⟨rfl, decide_eq_true du⟩)
      by_cases h1 : mode = 1
      · subst h1
        rw [hqz] at dz hr0
        cases n0
        · exact .inr (.inr (.inr (.inl ⟨rfl, rfl, decide_eq_true (dz.2 (by rw [hsg]; simp))⟩)))
        · refine .inr (.inr (.inl ⟨rfl, rfl, decide_eq_true ?_⟩))
          by_cases hx : x0 = 0
          · rw [hr0 hx]
            omega
          · exact dz.1 (hsg.2 ⟨rfl, hx⟩)
      · exact .inr (.inr (.inr (.inr ⟨by simpa using h2, by simpa using h3, by simpa using h1⟩)))
  · exact rises_bad bits mode b1 b2 b3 h0 h1 hT hF
end Go.Proofs.YtkjbejdeejpdoaaDoor
