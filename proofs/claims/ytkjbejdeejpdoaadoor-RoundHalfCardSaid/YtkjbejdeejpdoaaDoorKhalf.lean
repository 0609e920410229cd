
/-
  The walk of the law RoundHalf.
-/
import Derived.Test.YtkjbejdeejpdoaaDoorKw
import Derived.Test.YtkjbejdeejpdoaaDoorFopen
import Derived.Test.YtkjbejdeejpdoaaDoorND
import Derived.Test.YtkjbejdeejpdoaaDoorRmf
namespace Go.Proofs.YtkjbejdeejpdoaaDoor
open Go.RowKit
set_option linter.unusedVariables false

theorem halfw_bad (bits mode : Int) (h1 : bits ≠ 16) (h2 : bits ≠ 32) (h3 : bits ≠ 64) {n0 : Bool} {A0 : Option Addr} {l0 c0 x0 : Nat} {e0 : Int} {w : World} (h0 : Arg w A0 l0 c0 x0) (hT : Tab w) (hF : Frm w) :
    Calls Tryd.prog 7 #[.int .i64 bits, .int .i64 mode, .agg #[.bool n0, .slice A0 l0 c0, .int .i64 e0]] w fun e w' => e = .returned (.bool true) ∧ Below w.heap.size w w' := by
  go_enter Tryd.func7, Tryd.ntmps7
  go_wp2_with fail
  obtain ⟨V, hV, za, BW, sW⟩ := frame1 w 25 n0 A0 l0 c0 e0
  rw [hV]
  clear hV sW
  replace hT := hT.on BW
  replace hF := hF.on BW
  replace h0 := h0.on BW
  refine (awake4_any hT hF).mono ?_
  rintro en w1 ⟨rfl, b⟩
  replace hT := hT.on b
  replace hF := hF.on b
  replace za := za.on b
  replace h0 := h0.on b
  replace BW := Below.step BW b
  clear b
  go_wp2_with fail
  refine (of_bad bits h1 h2 h3 _ hF).mono ?_
  rintro en w2 ⟨rfl, b⟩
  replace hT := hT.on b
  replace hF := hF.on b
  replace za := za.on b
  replace h0 := h0.on b
  replace BW := Below.step BW b
  clear b
  obtain ⟨zac0, zac1, zac2, zaf0, zaf1, zaf2, zal⟩ := za.cells
  go_wp2_with fail
  go_ret
  exact ⟨rfl, below_k BW _⟩
theorem halfw_m1 {B P W M E H : Nat} {low : Int} (hf : Fm B P W M E H low) (mode : Int) {n0 : Bool} {A0 : Option Addr} {l0 c0 x0 : Nat} {e0 : Int} {w : World} (h0 : Arg w A0 l0 c0 x0) (hT : Tab w) (hF : Frm w)  (m1 : decide (mode < 0) = true) :
    Calls Tryd.prog 7 #[.int .i64 (B : Int), .int .i64 mode, .agg #[.bool n0, .slice A0 l0 c0, .int .i64 e0]] w fun e w' => e = .returned (.bool true) ∧ Below w.heap.size w w' := by
  go_enter Tryd.func7, Tryd.ntmps7
  go_wp2_with fail
  obtain ⟨V, hV, za, BW, sW⟩ := frame1 w 25 n0 A0 l0 c0 e0
  rw [hV]
  clear hV sW
  replace hT := hT.on BW
  replace hF := hF.on BW
  replace h0 := h0.on BW
  refine (awake4_any hT hF).mono ?_
  rintro en w1 ⟨rfl, b⟩
  replace hT := hT.on b
  replace hF := hF.on b
  replace za := za.on b
  replace h0 := h0.on b
  replace BW := Below.step BW b
  clear b
  go_wp2_with fail
  refine (of_fm hf _ hF).mono ?_
  rintro en w2 ⟨rfl, b⟩
  replace hT := hT.on b
  replace hF := hF.on b
  replace za := za.on b
  replace h0 := h0.on b
  replace BW := Below.step BW b
  clear b
  obtain ⟨zac0, zac1, zac2, zaf0, zaf1, zaf2, zal⟩ := za.cells
  go_upto_region 4 with fail
  clear zac0 zac1 zac2 zaf0 zaf1 zaf2 zal
  obtain ⟨w3, e_w3⟩ : ∃ w', w2.alloc (.cells #[.int .i64 (B : Int), .int .i64 (P : Int), .int .i64 (W : Int)] 28) = w' := ⟨_, rfl⟩
  have b : Below w2.heap.size w2 w3 := e_w3 ▸ below_lit _ _
  have hs_w3 : w3.heap.size = w2.heap.size + 1 := e_w3 ▸ size_lit w2 _ rfl
  have zf : FB w3 w2.heap.size 28 (B : Int) (P : Int) (W : Int) := e_w3 ▸ Box.made_at w2 rfl 28 (notU_int _) (notU_int _) (notU_int _)
  rw [e_w3]
  clear e_w3
  replace hT := hT.on b
  replace hF := hF.on b
  replace za := za.on b
  replace h0 := h0.on b
  replace BW := Below.step BW b
  clear b
  clear hs_w3
  obtain ⟨zfc0, zfc1, zfc2, zff0, zff1, zff2, zfl⟩ := zf.cells
  obtain ⟨zac0, zac1, zac2, zaf0, zaf1, zaf2, zal⟩ := za.cells
  go_wp2_with fail
  go_ret
  exact ⟨rfl, BW⟩
theorem halfw_m2 {B P W M E H : Nat} {low : Int} (hf : Fm B P W M E H low) (mode : Int) {n0 : Bool} {A0 : Option Addr} {l0 c0 x0 : Nat} {e0 : Int} {w : World} (h0 : Arg w A0 l0 c0 x0) (hT : Tab w) (hF : Frm w) (m1 : decide (mode < 0) = false) (m2 : decide (5 ≤ mode) = true) :
    Calls Tryd.prog 7 #[.int .i64 (B : Int), .int .i64 mode, .agg #[.bool n0, .slice A0 l0 c0, .int .i64 e0]] w fun e w' => e = .returned (.bool true) ∧ Below w.heap.size w w' := by
  go_enter Tryd.func7, Tryd.ntmps7
  go_wp2_with fail
  obtain ⟨V, hV, za, BW, sW⟩ := frame1 w 25 n0 A0 l0 c0 e0
  rw [hV]
  clear hV sW
  replace hT := hT.on BW
  replace hF := hF.on BW
  replace h0 := h0.on BW
  refine (awake4_any hT hF).mono ?_
  rintro en w1 ⟨rfl, b⟩
  replace hT := hT.on b
  replace hF := hF.on b
  replace za := za.on b
  replace h0 := h0.on b
  replace BW := Below.step BW b
  clear b
  go_wp2_with fail
  refine (of_fm hf _ hF).mono ?_
  rintro en w2 ⟨rfl, b⟩
  replace hT := hT.on b
  replace hF := hF.on b
  replace za := za.on b
  replace h0 := h0.on b
  replace BW := Below.step BW b
  clear b
  obtain ⟨zac0, zac1, zac2, zaf0, zaf1, zaf2, zal⟩ := za.cells
  go_upto_region 4 with fail
  clear zac0 zac1 zac2 zaf0 zaf1 zaf2 zal
  obtain ⟨w3, e_w3⟩ : ∃ w', w2.alloc (.cells #[.int .i64 (B : Int), .int .i64 (P : Int), .int .i64 (W : Int)] 28) = w' := ⟨_, rfl⟩
  have b : Below w2.heap.size w2 w3 := e_w3 ▸ below_lit _ _
  have hs_w3 : w3.heap.size = w2.heap.size + 1 := e_w3 ▸ size_lit w2 _ rfl
  have zf : FB w3 w2.heap.size 28 (B : Int) (P : Int) (W : Int) := e_w3 ▸ Box.made_at w2 rfl 28 (notU_int _) (notU_int _) (notU_int _)
  rw [e_w3]
  clear e_w3
  replace hT := hT.on b
  replace hF := hF.on b
  replace za := za.on b
  replace h0 := h0.on b
  replace BW := Below.step BW b
  clear b
  clear hs_w3
  obtain ⟨zfc0, zfc1, zfc2, zff0, zff1, zff2, zfl⟩ := zf.cells
  obtain ⟨zac0, zac1, zac2, zaf0, zaf1, zaf2, zal⟩ := za.cells
  go_wp2_with fail
  go_ret
  exact ⟨rfl, BW⟩
theorem halfw_gl {B P W M E H : Nat} {low : Int} (hf : Fm B P W M E H low) (mode : Int) {n0 : Bool} {A0 : Option Addr} {l0 c0 x0 : Nat} {e0 : Int} {w : World} (h0 : Arg w A0 l0 c0 x0) (hT : Tab w) (hF : Frm w) (m1 : decide (mode < 0) = false) (m2 : decide (5 ≤ mode) = false) (gl : decide (40 < (l0 : Int)) = true) :
    Calls Tryd.prog 7 #[.int .i64 (B : Int), .int .i64 mode, .agg #[.bool n0, .slice A0 l0 c0, .int .i64 e0]] w fun e w' => e = .returned (.bool true) ∧ Below w.heap.size w w' := by
  go_enter Tryd.func7, Tryd.ntmps7
  go_wp2_with fail
  obtain ⟨V, hV, za, BW, sW⟩ := frame1 w 25 n0 A0 l0 c0 e0
  rw [hV]
  clear hV sW
  replace hT := hT.on BW
  replace hF := hF.on BW
  replace h0 := h0.on BW
  refine (awake4_any hT hF).mono ?_
  rintro en w1 ⟨rfl, b⟩
  replace hT := hT.on b
  replace hF := hF.on b
  replace za := za.on b
  replace h0 := h0.on b
  replace BW := Below.step BW b
  clear b
  go_wp2_with fail
  refine (of_fm hf _ hF).mono ?_
  rintro en w2 ⟨rfl, b⟩
  replace hT := hT.on b
  replace hF := hF.on b
  replace za := za.on b
  replace h0 := h0.on b
  replace BW := Below.step BW b
  clear b
  obtain ⟨zac0, zac1, zac2, zaf0, zaf1, zaf2, zal⟩ := za.cells
  go_upto_region 4 with fail
  clear zac0 zac1 zac2 zaf0 zaf1 zaf2 zal
  obtain ⟨w3, e_w3⟩ : ∃ w', w2.alloc (.cells #[.int .i64 (B : Int), .int .i64 (P : Int), .int .i64 (W : Int)] 28) = w' := ⟨_, rfl⟩
  have b : Below w2.heap.size w2 w3 := e_w3 ▸ below_lit _ _
  have hs_w3 : w3.heap.size = w2.heap.size + 1 := e_w3 ▸ size_lit w2 _ rfl
  have zf : FB w3 w2.heap.size 28 (B : Int) (P : Int) (W : Int) := e_w3 ▸ Box.made_at w2 rfl 28 (notU_int _) (notU_int _) (notU_int _)
  rw [e_w3]
  clear e_w3
  replace hT := hT.on b
  replace hF := hF.on b
  replace za := za.on b
  replace h0 := h0.on b
  replace BW := Below.step BW b
  clear b
  clear hs_w3
  obtain ⟨zfc0, zfc1, zfc2, zff0, zff1, zff2, zfl⟩ := zf.cells
  obtain ⟨zac0, zac1, zac2, zaf0, zaf1, zaf2, zal⟩ := za.cells
  go_wp2_with fail
  go_ret
  exact ⟨rfl, BW⟩
theorem halfw_g1 {B P W M E H : Nat} {low : Int} (hf : Fm B P W M E H low) (mode : Int) {n0 : Bool} {A0 : Option Addr} {l0 c0 x0 : Nat} {e0 : Int} {w : World} (h0 : Arg w A0 l0 c0 x0) (hT : Tab w) (hF : Frm w) (m1 : decide (mode < 0) = false) (m2 : decide (5 ≤ mode) = false) (gl : decide (40 < (l0 : Int)) = false) (g1 : decide (e0 < -1200) = true) :
    Calls Tryd.prog 7 #[.int .i64 (B : Int), .int .i64 mode, .agg #[.bool n0, .slice A0 l0 c0, .int .i64 e0]] w fun e w' => e = .returned (.bool true) ∧ Below w.heap.size w w' := by
  go_enter Tryd.func7, Tryd.ntmps7
  go_wp2_with fail
  obtain ⟨V, hV, za, BW, sW⟩ := frame1 w 25 n0 A0 l0 c0 e0
  rw [hV]
  clear hV sW
  replace hT := hT.on BW
  replace hF := hF.on BW
  replace h0 := h0.on BW
  refine (awake4_any hT hF).mono ?_
  rintro en w1 ⟨rfl, b⟩
  replace hT := hT.on b
  replace hF := hF.on b
  replace za := za.on b
  replace h0 := h0.on b
  replace BW := Below.step BW b
  clear b
  go_wp2_with fail
  refine (of_fm hf _ hF).mono ?_
  rintro en w2 ⟨rfl, b⟩
  replace hT := hT.on b
  replace hF := hF.on b
  replace za := za.on b
  replace h0 := h0.on b
  replace BW := Below.step BW b
  clear b
  obtain ⟨zac0, zac1, zac2, zaf0, zaf1, zaf2, zal⟩ := za.cells
  go_upto_region 4 with fail
  clear zac0 zac1 zac2 zaf0 zaf1 zaf2 zal
  obtain ⟨w3, e_w3⟩ : ∃ w', w2.alloc (.cells #[.int .i64 (B : Int), .int .i64 (P : Int), .int .i64 (W : Int)] 28) = w' := ⟨_, rfl⟩
  have b : Below w2.heap.size w2 w3 := e_w3 ▸ below_lit _ _
  have hs_w3 : w3.heap.size = w2.heap.size + 1 := e_w3 ▸ size_lit w2 _ rfl
  have zf : FB w3 w2.heap.size 28 (B : Int) (P : Int) (W : Int) := e_w3 ▸ Box.made_at w2 rfl 28 (notU_int _) (notU_int _) (notU_int _)
  rw [e_w3]
  clear e_w3
  replace hT := hT.on b
  replace hF := hF.on b
  replace za := za.on b
  replace h0 := h0.on b
  replace BW := Below.step BW b
  clear b
  clear hs_w3
  obtain ⟨zfc0, zfc1, zfc2, zff0, zff1, zff2, zfl⟩ := zf.cells
  obtain ⟨zac0, zac1, zac2, zaf0, zaf1, zaf2, zal⟩ := za.cells
  go_wp2_with fail
  go_ret
  exact ⟨rfl, BW⟩
theorem halfw_g2 {B P W M E H : Nat} {low : Int} (hf : Fm B P W M E H low) (mode : Int) {n0 : Bool} {A0 : Option Addr} {l0 c0 x0 : Nat} {e0 : Int} {w : World} (h0 : Arg w A0 l0 c0 x0) (hT : Tab w) (hF : Frm w) (m1 : decide (mode < 0) = false) (m2 : decide (5 ≤ mode) = false) (gl : decide (40 < (l0 : Int)) = false) (g1 : decide (e0 < -1200) = false) (g2 : decide (1100 < e0) = true) :
    Calls Tryd.prog 7 #[.int .i64 (B : Int), .int .i64 mode, .agg #[.bool n0, .slice A0 l0 c0, .int .i64 e0]] w fun e w' => e = .returned (.bool true) ∧ Below w.heap.size w w' := by
  go_enter Tryd.func7, Tryd.ntmps7
  go_wp2_with fail
  obtain ⟨V, hV, za, BW, sW⟩ := frame1 w 25 n0 A0 l0 c0 e0
  rw [hV]
  clear hV sW
  replace hT := hT.on BW
  replace hF := hF.on BW
  replace h0 := h0.on BW
  refine (awake4_any hT hF).mono ?_
  rintro en w1 ⟨rfl, b⟩
  replace hT := hT.on b
  replace hF := hF.on b
  replace za := za.on b
  replace h0 := h0.on b
  replace BW := Below.step BW b
  clear b
  go_wp2_with fail
  refine (of_fm hf _ hF).mono ?_
  rintro en w2 ⟨rfl, b⟩
  replace hT := hT.on b
  replace hF := hF.on b
  replace za := za.on b
  replace h0 := h0.on b
  replace BW := Below.step BW b
  clear b
  obtain ⟨zac0, zac1, zac2, zaf0, zaf1, zaf2, zal⟩ := za.cells
  go_upto_region 4 with fail
  clear zac0 zac1 zac2 zaf0 zaf1 zaf2 zal
  obtain ⟨w3, e_w3⟩ : ∃ w', w2.alloc (.cells #[.int .i64 (B : Int), .int .i64 (P : Int), .int .i64 (W : Int)] 28) = w' := ⟨_, rfl⟩
  have b : Below w2.heap.size w2 w3 := e_w3 ▸ below_lit _ _
  have hs_w3 : w3.heap.size = w2.heap.size + 1 := e_w3 ▸ size_lit w2 _ rfl
  have zf : FB w3 w2.heap.size 28 (B : Int) (P : Int) (W : Int) := e_w3 ▸ Box.made_at w2 rfl 28 (notU_int _) (notU_int _) (notU_int _)
  rw [e_w3]
  clear e_w3
  replace hT := hT.on b
  replace hF := hF.on b
  replace za := za.on b
  replace h0 := h0.on b
  replace BW := Below.step BW b
  clear b
  clear hs_w3
  obtain ⟨zfc0, zfc1, zfc2, zff0, zff1, zff2, zfl⟩ := zf.cells
  obtain ⟨zac0, zac1, zac2, zaf0, zaf1, zaf2, zal⟩ := za.cells
  go_wp2_with fail
  go_ret
  exact ⟨rfl, BW⟩
theorem halfw_gz {B P W M E H : Nat} {low : Int} (hf : Fm B P W M E H low) (mode : Int) {n0 : Bool} {A0 : Option Addr} {l0 c0 x0 : Nat} {e0 : Int} {w : World} (h0 : Arg w A0 l0 c0 x0) (hT : Tab w) (hF : Frm w) (m1 : decide (mode < 0) = false) (m2 : decide (5 ≤ mode) = false) (gl : decide (40 < (l0 : Int)) = false) (g1 : decide (e0 < -1200) = false) (g2 : decide (1100 < e0) = false) (gz : ((blen x0 : Int) == 0) = true) :
    Calls Tryd.prog 7 #[.int .i64 (B : Int), .int .i64 mode, .agg #[.bool n0, .slice A0 l0 c0, .int .i64 e0]] w fun e w' => e = .returned (.bool true) ∧ Below w.heap.size w w' := by
  have gl' := of_decide_eq_false gl
  go_enter Tryd.func7, Tryd.ntmps7
  go_wp2_with fail
  obtain ⟨V, hV, za, BW, sW⟩ := frame1 w 25 n0 A0 l0 c0 e0
  rw [hV]
  clear hV sW
  replace hT := hT.on BW
  replace hF := hF.on BW
  replace h0 := h0.on BW
  refine (awake4_any hT hF).mono ?_
  rintro en w1 ⟨rfl, b⟩
  replace hT := hT.on b
  replace hF := hF.on b
  replace za := za.on b
  replace h0 := h0.on b
  replace BW := Below.step BW b
  clear b
  go_wp2_with fail
  refine (of_fm hf _ hF).mono ?_
  rintro en w2 ⟨rfl, b⟩
  replace hT := hT.on b
  replace hF := hF.on b
  replace za := za.on b
  replace h0 := h0.on b
  replace BW := Below.step BW b
  clear b
  obtain ⟨zac0, zac1, zac2, zaf0, zaf1, zaf2, zal⟩ := za.cells
  go_upto_region 4 with fail
  clear zac0 zac1 zac2 zaf0 zaf1 zaf2 zal
  obtain ⟨w3, e_w3⟩ : ∃ w', w2.alloc (.cells #[.int .i64 (B : Int), .int .i64 (P : Int), .int .i64 (W : Int)] 28) = w' := ⟨_, rfl⟩
  have b : Below w2.heap.size w2 w3 := e_w3 ▸ below_lit _ _
  have hs_w3 : w3.heap.size = w2.heap.size + 1 := e_w3 ▸ size_lit w2 _ rfl
  have zf : FB w3 w2.heap.size 28 (B : Int) (P : Int) (W : Int) := e_w3 ▸ Box.made_at w2 rfl 28 (notU_int _) (notU_int _) (notU_int _)
  rw [e_w3]
  clear e_w3
  replace hT := hT.on b
  replace hF := hF.on b
  replace za := za.on b
  replace h0 := h0.on b
  replace BW := Below.step BW b
  clear b
  clear hs_w3
  obtain ⟨zfc0, zfc1, zfc2, zff0, zff1, zff2, zfl⟩ := zf.cells
  obtain ⟨zac0, zac1, zac2, zaf0, zaf1, zaf2, zal⟩ := za.cells
  go_wp2_with fail
  refine (len_any h0 (by omega)).mono ?_
  rintro en w' ⟨rfl, rfl⟩
  go_wp2_with fail
  go_ret
  exact ⟨rfl, BW⟩
theorem halfw_over {B P W M E H : Nat} {low : Int} (hf : Fm B P W M E H low) (mode : Int) {n0 : Bool} {A0 : Option Addr} {l0 c0 x0 : Nat} {e0 : Int} {w : World} (h0 : Arg w A0 l0 c0 x0) (hT : Tab w) (hF : Frm w) (m1 : decide (mode < 0) = false) (m2 : decide (5 ≤ mode) = false) (gl : decide (40 < (l0 : Int)) = false) (g1 : decide (e0 < -1200) = false) (g2 : decide (1100 < e0) = false) (gz : ((blen x0 : Int) == 0) = false) {u : Nat} {t : Int} (ha : roundS P M E H low mode ⟨n0, x0, e0⟩ false = (u, 5, 0)) (ht : topS ⟨n0, x0, e0⟩ = (t, 0)) :
    Calls Tryd.prog 7 #[.int .i64 (B : Int), .int .i64 mode, .agg #[.bool n0, .slice A0 l0 c0, .int .i64 e0]] w fun e w' => e = .returned (.bool true) ∧ Below w.heap.size w w' := by
  have gl' := of_decide_eq_false gl
  have HA := Lib.hid ha
  have HT := Lib.hid ht
  clear ha ht
  go_enter Tryd.func7, Tryd.ntmps7
  go_wp2_with fail
  obtain ⟨V, hV, za, BW, sW⟩ := frame1 w 25 n0 A0 l0 c0 e0
  rw [hV]
  clear hV sW
  replace hT := hT.on BW
  replace hF := hF.on BW
  replace h0 := h0.on BW
  refine (awake4_any hT hF).mono ?_
  rintro en w1 ⟨rfl, b⟩
  replace hT := hT.on b
  replace hF := hF.on b
  replace za := za.on b
  replace h0 := h0.on b
  replace BW := Below.step BW b
  clear b
  go_wp2_with fail
  refine (of_fm hf _ hF).mono ?_
  rintro en w2 ⟨rfl, b⟩
  replace hT := hT.on b
  replace hF := hF.on b
  replace za := za.on b
  replace h0 := h0.on b
  replace BW := Below.step BW b
  clear b
  obtain ⟨zac0, zac1, zac2, zaf0, zaf1, zaf2, zal⟩ := za.cells
  go_upto_region 4 with fail
  clear zac0 zac1 zac2 zaf0 zaf1 zaf2 zal
  obtain ⟨w3, e_w3⟩ : ∃ w', w2.alloc (.cells #[.int .i64 (B : Int), .int .i64 (P : Int), .int .i64 (W : Int)] 28) = w' := ⟨_, rfl⟩
  have b : Below w2.heap.size w2 w3 := e_w3 ▸ below_lit _ _
  have hs_w3 : w3.heap.size = w2.heap.size + 1 := e_w3 ▸ size_lit w2 _ rfl
  have zf : FB w3 w2.heap.size 28 (B : Int) (P : Int) (W : Int) := e_w3 ▸ Box.made_at w2 rfl 28 (notU_int _) (notU_int _) (notU_int _)
  rw [e_w3]
  clear e_w3
  replace hT := hT.on b
  replace hF := hF.on b
  replace za := za.on b
  replace h0 := h0.on b
  replace BW := Below.step BW b
  clear b
  clear hs_w3
  obtain ⟨zfc0, zfc1, zfc2, zff0, zff1, zff2, zfl⟩ := zf.cells
  obtain ⟨zac0, zac1, zac2, zaf0, zaf1, zaf2, zal⟩ := za.cells
  go_wp2_with fail
  refine (len_any h0 (by omega)).mono ?_
  rintro en w' ⟨rfl, rfl⟩
  go_wp2_with fail
  refine (to_as hf h0 (by omega) hT _ false HA.out).mono ?_
  rintro en w4 ⟨rfl, b⟩
  clear zfc0 zfc1 zfc2 zff0 zff1 zff2 zfl zac0 zac1 zac2 zaf0 zaf1 zaf2 zal
  replace hT := hT.on b
  replace hF := hF.on b
  replace za := za.on b
  replace h0 := h0.on b
  replace zf := zf.on b
  replace BW := Below.step BW b
  clear b
  obtain ⟨zfc0, zfc1, zfc2, zff0, zff1, zff2, zfl⟩ := zf.cells
  obtain ⟨zac0, zac1, zac2, zaf0, zaf1, zaf2, zal⟩ := za.cells
  go_wp2_with fail
  refine (dtop_as h0 (by omega) hT HT.out).mono ?_
  rintro en w5 ⟨rfl, b⟩
  clear zfc0 zfc1 zfc2 zff0 zff1 zff2 zfl zac0 zac1 zac2 zaf0 zaf1 zaf2 zal
  replace hT := hT.on b
  replace hF := hF.on b
  replace za := za.on b
  replace h0 := h0.on b
  replace zf := zf.on b
  replace BW := Below.step BW b
  clear b
  obtain ⟨zfc0, zfc1, zfc2, zff0, zff1, zff2, zfl⟩ := zf.cells
  obtain ⟨zac0, zac1, zac2, zaf0, zaf1, zaf2, zal⟩ := za.cells
  go_wp2_with fail
  go_ret
  exact ⟨rfl, BW⟩
set_option maxHeartbeats 4000000 in
set_option maxRecDepth 100000 in
theorem halfw_near {B P W M E H : Nat} {low : Int} (hf : Fm B P W M E H low) (mode : Int) {n0 : Bool} {A0 : Option Addr} {l0 c0 x0 : Nat} {e0 : Int} {w : World} (h0 : Arg w A0 l0 c0 x0) (hT : Tab w) (hF : Frm w) (m1 : decide (mode < 0) = false) (m2 : decide (5 ≤ mode) = false) (gl : decide (40 < (l0 : Int)) = false) (g1 : decide (e0 < -1200) = false) (g2 : decide (1100 < e0) = false) (gz : ((blen x0 : Int) == 0) = false) {u : Nat} {t fl p qc qh : Int} (ha : roundS P M E H low mode ⟨n0, x0, e0⟩ false = (u, fl, 0)) (hu : u < 18446744073709551616) (q4 : bits BinOp.and IntKind.i64 fl 4 = 0) (ht : topS ⟨n0, x0, e0⟩ = (t, 0)) {vn dn : Bool} {vx dx : Nat} {ve de : Int} (hv : valS M E H low u = (⟨vn, vx, ve⟩, 0)) (hlv : blen vx ≤ 4096)
    (hs : addS ⟨n0, x0, e0⟩ (D.turn ⟨vn, vx, ve⟩) = (⟨dn, dx, de⟩, 0)) (hld : blen dx ≤ 4096) (hp : max (t - (P : Int) + 1) low = p) (ht1 : -20000 ≤ t) (ht2 : t ≤ 20000) (hp1 : -20000 ≤ p) (hp2 : p ≤ 20000) (hc : cmpS ⟨false, dx, de⟩ ⟨false, 1, p⟩ = (qc, 0)) (hd : cmpS ⟨false, dx, de⟩ ⟨false, 1, p - 1⟩ = (qh, 0)) (d1 : decide (qc < 0) = true) (d2 : decide (qh ≤ 0) = true) :
    Calls Tryd.prog 7 #[.int .i64 (B : Int), .int .i64 mode, .agg #[.bool n0, .slice A0 l0 c0, .int .i64 e0]] w fun e w' => e = .returned (.bool true) ∧ Below w.heap.size w w' := by
  obtain ⟨b1, b2, b3, b4, b5, b6, b7, b8, b9, b10, b11, b12, b13, b14, b15⟩ := hf.bd
  have gl' := of_decide_eq_false gl
  have HA := Lib.hid ha
  have HT := Lib.hid ht
  clear ha ht
  have HV := Lib.hid hv
  have HS := Lib.hid hs
  have HC := Lib.hid hc
  have HD := Lib.hid hd
  have HL := Lib.hid (fun (V : World) => flow_as hf low rfl V)
  have r1 : IntKind.i64.wrap (t - (P : Int)) = t - (P : Int) := IntWalk.i64_in _ (by omega)
  have r2 : IntKind.i64.wrap (t - (P : Int) + 1) = t - (P : Int) + 1 := IntWalk.i64_in _ (by omega)
  have r3 : IntKind.i64.wrap (p - 1) = p - 1 := IntWalk.i64_in _ (by omega)
  clear hv hs hc hd b1
  go_enter Tryd.func7, Tryd.ntmps7
  go_wp2_with fail
  obtain ⟨V, hV, za, BW, sW⟩ := frame1 w 25 n0 A0 l0 c0 e0
  rw [hV]
  clear hV sW
  replace hT := hT.on BW
  replace hF := hF.on BW
  replace h0 := h0.on BW
  refine (awake4_any hT hF).mono ?_
  rintro en w1 ⟨rfl, b⟩
  replace hT := hT.on b
  replace hF := hF.on b
  replace za := za.on b
  replace h0 := h0.on b
  replace BW := Below.step BW b
  clear b
  go_wp2_with fail
  refine (of_fm hf _ hF).mono ?_
  rintro en w2 ⟨rfl, b⟩
  replace hT := hT.on b
  replace hF := hF.on b
  replace za := za.on b
  replace h0 := h0.on b
  replace BW := Below.step BW b
  clear b
  obtain ⟨zac0, zac1, zac2, zaf0, zaf1, zaf2, zal⟩ := za.cells
  go_upto_region 4 with fail
  clear zac0 zac1 zac2 zaf0 zaf1 zaf2 zal
  obtain ⟨w3, e_w3⟩ : ∃ w', w2.alloc (.cells #[.int .i64 (B : Int), .int .i64 (P : Int), .int .i64 (W : Int)] 28) = w' := ⟨_, rfl⟩
  have b : Below w2.heap.size w2 w3 := e_w3 ▸ below_lit _ _
  have hs_w3 : w3.heap.size = w2.heap.size + 1 := e_w3 ▸ size_lit w2 _ rfl
  have zf : FB w3 w2.heap.size 28 (B : Int) (P : Int) (W : Int) := e_w3 ▸ Box.made_at w2 rfl 28 (notU_int _) (notU_int _) (notU_int _)
  rw [e_w3]
  clear e_w3
  replace hT := hT.on b
  replace hF := hF.on b
  replace za := za.on b
  replace h0 := h0.on b
  replace BW := Below.step BW b
  clear b
  clear hs_w3
  obtain ⟨zfc0, zfc1, zfc2, zff0, zff1, zff2, zfl⟩ := zf.cells
  obtain ⟨zac0, zac1, zac2, zaf0, zaf1, zaf2, zal⟩ := za.cells
  go_wp2_with fail
  refine (len_any h0 (by omega)).mono ?_
  rintro en w' ⟨rfl, rfl⟩
  go_wp2_with fail
  refine (to_as hf h0 (by omega) hT _ false HA.out).mono ?_
  rintro en w4 ⟨rfl, b⟩
  clear zfc0 zfc1 zfc2 zff0 zff1 zff2 zfl zac0 zac1 zac2 zaf0 zaf1 zaf2 zal
  replace hT := hT.on b
  replace hF := hF.on b
  replace za := za.on b
  replace h0 := h0.on b
  replace zf := zf.on b
  replace BW := Below.step BW b
  clear b
  obtain ⟨zfc0, zfc1, zfc2, zff0, zff1, zff2, zfl⟩ := zf.cells
  obtain ⟨zac0, zac1, zac2, zaf0, zaf1, zaf2, zal⟩ := za.cells
  go_wp2_with fail
  refine (dtop_as h0 (by omega) hT HT.out).mono ?_
  rintro en w5 ⟨rfl, b⟩
  clear zfc0 zfc1 zfc2 zff0 zff1 zff2 zfl zac0 zac1 zac2 zaf0 zaf1 zaf2 zal
  replace hT := hT.on b
  replace hF := hF.on b
  replace za := za.on b
  replace h0 := h0.on b
  replace zf := zf.on b
  replace BW := Below.step BW b
  clear b
  obtain ⟨zfc0, zfc1, zfc2, zff0, zff1, zff2, zfl⟩ := zf.cells
  obtain ⟨zac0, zac1, zac2, zaf0, zaf1, zaf2, zal⟩ := za.cells
  go_wp2_with fail
  refine (value_as hf u hu hT HV.out).mono ?_
  rintro en w6 ⟨V_rv, v_rv, rfl, rv, b⟩
  clear zfc0 zfc1 zfc2 zff0 zff1 zff2 zfl zac0 zac1 zac2 zaf0 zaf1 zaf2 zal
  replace hT := hT.on b
  replace hF := hF.on b
  replace za := za.on b
  replace h0 := h0.on b
  replace zf := zf.on b
  replace BW := Below.step BW b
  clear b
  have lv := res_n_le rv (k := 128) hlv
  obtain ⟨zfc0, zfc1, zfc2, zff0, zff1, zff2, zfl⟩ := zf.cells
  obtain ⟨zac0, zac1, zac2, zaf0, zaf1, zaf2, zal⟩ := za.cells
  go_upto_region 13 with fail
  clear zfc0 zfc1 zfc2 zff0 zff1 zff2 zfl zac0 zac1 zac2 zaf0 zaf1 zaf2 zal
  obtain ⟨w7, e_w7⟩ : ∃ w', w6.alloc (dob vn V_rv v_rv v_rv ve 25) = w' := ⟨_, rfl⟩
  have b : Below w6.heap.size w6 w7 := e_w7 ▸ below_lit _ _
  have hs_w7 : w7.heap.size = w6.heap.size + 1 := e_w7 ▸ size_lit w6 _ rfl
  have zv : DB w7 w6.heap.size 25 vn V_rv v_rv v_rv ve := e_w7 ▸ DB.made w6 rfl 25 vn V_rv v_rv v_rv ve
  rw [e_w7]
  clear e_w7
  replace hT := hT.on b
  replace hF := hF.on b
  replace za := za.on b
  replace h0 := h0.on b
  replace zf := zf.on b
  replace rv := rv.on b
  replace BW := Below.step BW b
  clear b
  clear hs_w7
  obtain ⟨zac0, zac1, zac2, zaf0, zaf1, zaf2, zal⟩ := za.cells
  obtain ⟨zvc0, zvc1, zvc2, zvf0, zvf1, zvf2, zvl⟩ := zv.cells
  go_wp2_with fail
  refine (dsub_as h0 (rv.arg (by omega)) (by omega) (by omega) hT HS.out).mono ?_
  rintro en w8 ⟨V_rd, v_rd, rfl, rd, b⟩
  clear zac0 zac1 zac2 zaf0 zaf1 zaf2 zal zvc0 zvc1 zvc2 zvf0 zvf1 zvf2 zvl
  replace hT := hT.on b
  replace hF := hF.on b
  replace za := za.on b
  replace h0 := h0.on b
  replace zf := zf.on b
  replace rv := rv.on b
  replace zv := zv.on b
  replace BW := Below.step BW b
  clear b
  have ld := res_n_le rd (k := 128) hld
  obtain ⟨zac0, zac1, zac2, zaf0, zaf1, zaf2, zal⟩ := za.cells
  obtain ⟨zvc0, zvc1, zvc2, zvf0, zvf1, zvf2, zvl⟩ := zv.cells
  go_upto_region 15 with fail
  clear zac0 zac1 zac2 zaf0 zaf1 zaf2 zal zvc0 zvc1 zvc2 zvf0 zvf1 zvf2 zvl
  obtain ⟨w9, e_w9⟩ : ∃ w', w8.alloc (dob false V_rd v_rd v_rd de 25) = w' := ⟨_, rfl⟩
  have b : Below w8.heap.size w8 w9 := e_w9 ▸ below_lit _ _
  have hs_w9 : w9.heap.size = w8.heap.size + 1 := e_w9 ▸ size_lit w8 _ rfl
  have zd : DB w9 w8.heap.size 25 false V_rd v_rd v_rd de := e_w9 ▸ DB.made w8 rfl 25 false V_rd v_rd v_rd de
  rw [e_w9]
  clear e_w9
  replace hT := hT.on b
  replace hF := hF.on b
  replace za := za.on b
  replace h0 := h0.on b
  replace zf := zf.on b
  replace rv := rv.on b
  replace zv := zv.on b
  replace rd := rd.on b
  replace BW := Below.step BW b
  clear b
  clear hs_w9
  clear rv zv za h0
  replace hT := hT.on ((Below.refl _ _).drew : Below w9.heap.size w9 w9.drew)
  replace hF := hF.on ((Below.refl _ _).drew : Below w9.heap.size w9 w9.drew)
  replace zf := zf.on ((Below.refl _ _).drew : Below w9.heap.size w9 w9.drew)
  replace rd := rd.on ((Below.refl _ _).drew : Below w9.heap.size w9 w9.drew)
  replace zd := zd.on ((Below.refl _ _).drew : Below w9.heap.size w9 w9.drew)
  replace BW := Lib.hid (Below.step BW ((Below.refl _ _).drew : Below w9.heap.size w9 w9.drew))
  go_region_held3 (fun w' => w'.cell? ⟨w2.heap.size, 0, none⟩ = some (.int .i64 (B : Int)) ∧ w'.cell? ⟨w2.heap.size, 1, none⟩ = some (.int .i64 (P : Int)) ∧ w'.cell? ⟨w2.heap.size, 2, none⟩ = some (.int .i64 (W : Int)))
    ((exact ⟨zf.cells.1, zf.cells.2.1, zf.cells.2.2.1⟩))
    (first
      | (go_at_call 27
         (with_reducible refine (HL.out _).mono ?_)
         rintro en w10 ⟨rfl, b⟩
         replace hT := hT.on b
         replace hF := hF.on b
         replace zf := zf.on b
         replace rd := rd.on b
         replace zd := zd.on b
         replace BW := Lib.hid (Below.step BW.out b)
         clear b))
  replace BW := BW.out
  all_goals (
    go_upto_region 16 with fail
    clear zf
    clear hp r1 r2 hp1 hp2 ht1 ht2
    replace hT := hT.on ((Below.refl _ _).drew : Below w10.heap.size w10 w10.drew)
    replace hF := hF.on ((Below.refl _ _).drew : Below w10.heap.size w10 w10.drew)
    replace rd := rd.on ((Below.refl _ _).drew : Below w10.heap.size w10 w10.drew)
    replace zd := zd.on ((Below.refl _ _).drew : Below w10.heap.size w10 w10.drew)
    replace BW := Lib.hid (Below.step BW ((Below.refl _ _).drew : Below w10.heap.size w10 w10.drew))
    go_region_held3 (fun w' => w'.cell? ⟨w8.heap.size, 0, none⟩ = some (.bool false) ∧ w'.cell? ⟨w8.heap.size, 1, none⟩ = some (.slice V_rd v_rd v_rd) ∧ w'.cell? ⟨w8.heap.size, 2, none⟩ = some (.int .i64 de))
      ((exact ⟨zd.cells.1, zd.cells.2.1, zd.cells.2.2.1⟩))
      (first
        | (go_at_call 28
           (with_reducible refine (aw_one _).mono ?_)
           rintro en w11 ⟨V_r5, v_r5, rfl, r5, b⟩
           replace hT := hT.on b
           replace hF := hF.on b
           replace rd := rd.on b
           replace zd := zd.on b
           replace BW := Lib.hid (Below.step BW.out b)
           have lr5 := r5.le2 (by omega)
           clear b)
        | (go_at_call 21
           (with_reducible refine (dcmp_as (rd.arg (by omega)) (r5.arg (by omega)) (by omega) (by omega) hT HC.out).mono ?_)
           rintro en w12 ⟨rfl, b⟩
           replace hT := hT.on b
           replace hF := hF.on b
           replace rd := rd.on b
           replace zd := zd.on b
           replace r5 := r5.on b
           replace BW := Lib.hid (Below.step BW.out b)
           clear b))
    replace BW := BW.out
    clear r5
    go_upto_region 17 with fail
    replace hT := hT.on ((Below.refl _ _).drew : Below w12.heap.size w12 w12.drew)
    replace hF := hF.on ((Below.refl _ _).drew : Below w12.heap.size w12 w12.drew)
    replace rd := rd.on ((Below.refl _ _).drew : Below w12.heap.size w12 w12.drew)
    replace zd := zd.on ((Below.refl _ _).drew : Below w12.heap.size w12 w12.drew)
    replace BW := Lib.hid (Below.step BW ((Below.refl _ _).drew : Below w12.heap.size w12 w12.drew))
    go_region_held3 (fun w' => w'.cell? ⟨w8.heap.size, 0, none⟩ = some (.bool false) ∧ w'.cell? ⟨w8.heap.size, 1, none⟩ = some (.slice V_rd v_rd v_rd) ∧ w'.cell? ⟨w8.heap.size, 2, none⟩ = some (.int .i64 de))
      ((exact ⟨zd.cells.1, zd.cells.2.1, zd.cells.2.2.1⟩))
      (first
        | (go_at_call 28
           (with_reducible refine (aw_one _).mono ?_)
           rintro en w13 ⟨V_r6, v_r6, rfl, r6, b⟩
           replace hT := hT.on b
           replace hF := hF.on b
           replace rd := rd.on b
           replace zd := zd.on b
           replace BW := Lib.hid (Below.step BW.out b)
           have lr6 := r6.le2 (by omega)
           clear b)
        | (go_at_call 21
           (with_reducible refine (dcmp_as (rd.arg (by omega)) (r6.arg (by omega)) (by omega) (by omega) hT HD.out).mono ?_)
           rintro en w14 ⟨rfl, b⟩
           replace hT := hT.on b
           replace hF := hF.on b
           replace rd := rd.on b
           replace zd := zd.on b
           replace r6 := r6.on b
           replace BW := Lib.hid (Below.step BW.out b)
           clear b))
    replace BW := BW.out
    clear r6
    go_wp2_with fail
    go_ret
    exact ⟨rfl, BW⟩)
set_option maxHeartbeats 4000000 in
set_option maxRecDepth 100000 in
theorem halfw_far {B P W M E H : Nat} {low : Int} (hf : Fm B P W M E H low) (mode : Int) {n0 : Bool} {A0 : Option Addr} {l0 c0 x0 : Nat} {e0 : Int} {w : World} (h0 : Arg w A0 l0 c0 x0) (hT : Tab w) (hF : Frm w) (m1 : decide (mode < 0) = false) (m2 : decide (5 ≤ mode) = false) (gl : decide (40 < (l0 : Int)) = false) (g1 : decide (e0 < -1200) = false) (g2 : decide (1100 < e0) = false) (gz : ((blen x0 : Int) == 0) = false) {u : Nat} {t fl p qc qh : Int} (ha : roundS P M E H low mode ⟨n0, x0, e0⟩ false = (u, fl, 0)) (hu : u < 18446744073709551616) (q4 : bits BinOp.and IntKind.i64 fl 4 = 0) (ht : topS ⟨n0, x0, e0⟩ = (t, 0)) {vn dn : Bool} {vx dx : Nat} {ve de : Int} (hv : valS M E H low u = (⟨vn, vx, ve⟩, 0)) (hlv : blen vx ≤ 4096)
    (hs : addS ⟨n0, x0, e0⟩ (D.turn ⟨vn, vx, ve⟩) = (⟨dn, dx, de⟩, 0)) (hld : blen dx ≤ 4096) (hp : max (t - (P : Int) + 1) low = p) (ht1 : -20000 ≤ t) (ht2 : t ≤ 20000) (hp1 : -20000 ≤ p) (hp2 : p ≤ 20000) (hc : cmpS ⟨false, dx, de⟩ ⟨false, 1, p⟩ = (qc, 0)) (hd : cmpS ⟨false, dx, de⟩ ⟨false, 1, p - 1⟩ = (qh, 0)) (d1 : decide (qc < 0) = true) (d2 : decide (qh ≤ 0) = false) (d3 : (mode != 0) = true) (d4 : (mode != 4) = true) :
    Calls Tryd.prog 7 #[.int .i64 (B : Int), .int .i64 mode, .agg #[.bool n0, .slice A0 l0 c0, .int .i64 e0]] w fun e w' => e = .returned (.bool true) ∧ Below w.heap.size w w' := by
  obtain ⟨b1, b2, b3, b4, b5, b6, b7, b8, b9, b10, b11, b12, b13, b14, b15⟩ := hf.bd
  have gl' := of_decide_eq_false gl
  have HA := Lib.hid ha
  have HT := Lib.hid ht
  clear ha ht
  have HV := Lib.hid hv
  have HS := Lib.hid hs
  have HC := Lib.hid hc
  have HD := Lib.hid hd
  have HL := Lib.hid (fun (V : World) => flow_as hf low rfl V)
  have r1 : IntKind.i64.wrap (t - (P : Int)) = t - (P : Int) := IntWalk.i64_in _ (by omega)
  have r2 : IntKind.i64.wrap (t - (P : Int) + 1) = t - (P : Int) + 1 := IntWalk.i64_in _ (by omega)
  have r3 : IntKind.i64.wrap (p - 1) = p - 1 := IntWalk.i64_in _ (by omega)
  clear hv hs hc hd b1
  go_enter Tryd.func7, Tryd.ntmps7
  go_wp2_with fail
  obtain ⟨V, hV, za, BW, sW⟩ := frame1 w 25 n0 A0 l0 c0 e0
  rw [hV]
  clear hV sW
  replace hT := hT.on BW
  replace hF := hF.on BW
  replace h0 := h0.on BW
  refine (awake4_any hT hF).mono ?_
  rintro en w1 ⟨rfl, b⟩
  replace hT := hT.on b
  replace hF := hF.on b
  replace za := za.on b
  replace h0 := h0.on b
  replace BW := Below.step BW b
  clear b
  go_wp2_with fail
  refine (of_fm hf _ hF).mono ?_
  rintro en w2 ⟨rfl, b⟩
  replace hT := hT.on b
  replace hF := hF.on b
  replace za := za.on b
  replace h0 := h0.on b
  replace BW := Below.step BW b
  clear b
  obtain ⟨zac0, zac1, zac2, zaf0, zaf1, zaf2, zal⟩ := za.cells
  go_upto_region 4 with fail
  clear zac0 zac1 zac2 zaf0 zaf1 zaf2 zal
  obtain ⟨w3, e_w3⟩ : ∃ w', w2.alloc (.cells #[.int .i64 (B : Int), .int .i64 (P : Int), .int .i64 (W : Int)] 28) = w' := ⟨_, rfl⟩
  have b : Below w2.heap.size w2 w3 := e_w3 ▸ below_lit _ _
  have hs_w3 : w3.heap.size = w2.heap.size + 1 := e_w3 ▸ size_lit w2 _ rfl
  have zf : FB w3 w2.heap.size 28 (B : Int) (P : Int) (W : Int) := e_w3 ▸ Box.made_at w2 rfl 28 (notU_int _) (notU_int _) (notU_int _)
  rw [e_w3]
  clear e_w3
  replace hT := hT.on b
  replace hF := hF.on b
  replace za := za.on b
  replace h0 := h0.on b
  replace BW := Below.step BW b
  clear b
  clear hs_w3
  obtain ⟨zfc0, zfc1, zfc2, zff0, zff1, zff2, zfl⟩ := zf.cells
  obtain ⟨zac0, zac1, zac2, zaf0, zaf1, zaf2, zal⟩ := za.cells
  go_wp2_with fail
  refine (len_any h0 (by omega)).mono ?_
  rintro en w' ⟨rfl, rfl⟩
  go_wp2_with fail
  refine (to_as hf h0 (by omega) hT _ false HA.out).mono ?_
  rintro en w4 ⟨rfl, b⟩
  clear zfc0 zfc1 zfc2 zff0 zff1 zff2 zfl zac0 zac1 zac2 zaf0 zaf1 zaf2 zal
  replace hT := hT.on b
  replace hF := hF.on b
  replace za := za.on b
  replace h0 := h0.on b
  replace zf := zf.on b
  replace BW := Below.step BW b
  clear b
  obtain ⟨zfc0, zfc1, zfc2, zff0, zff1, zff2, zfl⟩ := zf.cells
  obtain ⟨zac0, zac1, zac2, zaf0, zaf1, zaf2, zal⟩ := za.cells
  go_wp2_with fail
  refine (dtop_as h0 (by omega) hT HT.out).mono ?_
  rintro en w5 ⟨rfl, b⟩
  clear zfc0 zfc1 zfc2 zff0 zff1 zff2 zfl zac0 zac1 zac2 zaf0 zaf1 zaf2 zal
  replace hT := hT.on b
  replace hF := hF.on b
  replace za := za.on b
  replace h0 := h0.on b
  replace zf := zf.on b
  replace BW := Below.step BW b
  clear b
  obtain ⟨zfc0, zfc1, zfc2, zff0, zff1, zff2, zfl⟩ := zf.cells
  obtain ⟨zac0, zac1, zac2, zaf0, zaf1, zaf2, zal⟩ := za.cells
  go_wp2_with fail
  refine (value_as hf u hu hT HV.out).mono ?_
  rintro en w6 ⟨V_rv, v_rv, rfl, rv, b⟩
  clear zfc0 zfc1 zfc2 zff0 zff1 zff2 zfl zac0 zac1 zac2 zaf0 zaf1 zaf2 zal
  replace hT := hT.on b
  replace hF := hF.on b
  replace za := za.on b
  replace h0 := h0.on b
  replace zf := zf.on b
  replace BW := Below.step BW b
  clear b
  have lv := res_n_le rv (k := 128) hlv
  obtain ⟨zfc0, zfc1, zfc2, zff0, zff1, zff2, zfl⟩ := zf.cells
  obtain ⟨zac0, zac1, zac2, zaf0, zaf1, zaf2, zal⟩ := za.cells
  go_upto_region 13 with fail
  clear zfc0 zfc1 zfc2 zff0 zff1 zff2 zfl zac0 zac1 zac2 zaf0 zaf1 zaf2 zal
  obtain ⟨w7, e_w7⟩ : ∃ w', w6.alloc (dob vn V_rv v_rv v_rv ve 25) = w' := ⟨_, rfl⟩
  have b : Below w6.heap.size w6 w7 := e_w7 ▸ below_lit _ _
  have hs_w7 : w7.heap.size = w6.heap.size + 1 := e_w7 ▸ size_lit w6 _ rfl
  have zv : DB w7 w6.heap.size 25 vn V_rv v_rv v_rv ve := e_w7 ▸ DB.made w6 rfl 25 vn V_rv v_rv v_rv ve
  rw [e_w7]
  clear e_w7
  replace hT := hT.on b
  replace hF := hF.on b
  replace za := za.on b
  replace h0 := h0.on b
  replace zf := zf.on b
  replace rv := rv.on b
  replace BW := Below.step BW b
  clear b
  clear hs_w7
  obtain ⟨zac0, zac1, zac2, zaf0, zaf1, zaf2, zal⟩ := za.cells
  obtain ⟨zvc0, zvc1, zvc2, zvf0, zvf1, zvf2, zvl⟩ := zv.cells
  go_wp2_with fail
  refine (dsub_as h0 (rv.arg (by omega)) (by omega) (by omega) hT HS.out).mono ?_
  rintro en w8 ⟨V_rd, v_rd, rfl, rd, b⟩
  clear zac0 zac1 zac2 zaf0 zaf1 zaf2 zal zvc0 zvc1 zvc2 zvf0 zvf1 zvf2 zvl
  replace hT := hT.on b
  replace hF := hF.on b
  replace za := za.on b
  replace h0 := h0.on b
  replace zf := zf.on b
  replace rv := rv.on b
  replace zv := zv.on b
  replace BW := Below.step BW b
  clear b
  have ld := res_n_le rd (k := 128) hld
  obtain ⟨zac0, zac1, zac2, zaf0, zaf1, zaf2, zal⟩ := za.cells
  obtain ⟨zvc0, zvc1, zvc2, zvf0, zvf1, zvf2, zvl⟩ := zv.cells
  go_upto_region 15 with fail
  clear zac0 zac1 zac2 zaf0 zaf1 zaf2 zal zvc0 zvc1 zvc2 zvf0 zvf1 zvf2 zvl
  obtain ⟨w9, e_w9⟩ : ∃ w', w8.alloc (dob false V_rd v_rd v_rd de 25) = w' := ⟨_, rfl⟩
  have b : Below w8.heap.size w8 w9 := e_w9 ▸ below_lit _ _
  have hs_w9 : w9.heap.size = w8.heap.size + 1 := e_w9 ▸ size_lit w8 _ rfl
  have zd : DB w9 w8.heap.size 25 false V_rd v_rd v_rd de := e_w9 ▸ DB.made w8 rfl 25 false V_rd v_rd v_rd de
  rw [e_w9]
  clear e_w9
  replace hT := hT.on b
  replace hF := hF.on b
  replace za := za.on b
  replace h0 := h0.on b
  replace zf := zf.on b
  replace rv := rv.on b
  replace zv := zv.on b
  replace rd := rd.on b
  replace BW := Below.step BW b
  clear b
  clear hs_w9
  clear rv zv za h0
  replace hT := hT.on ((Below.refl _ _).drew : Below w9.heap.size w9 w9.drew)
  replace hF := hF.on ((Below.refl _ _).drew : Below w9.heap.size w9 w9.drew)
  replace zf := zf.on ((Below.refl _ _).drew : Below w9.heap.size w9 w9.drew)
  replace rd := rd.on ((Below.refl _ _).drew : Below w9.heap.size w9 w9.drew)
  replace zd := zd.on ((Below.refl _ _).drew : Below w9.heap.size w9 w9.drew)
  replace BW := Lib.hid (Below.step BW ((Below.refl _ _).drew : Below w9.heap.size w9 w9.drew))
  go_region_held3 (fun w' => w'.cell? ⟨w2.heap.size, 0, none⟩ = some (.int .i64 (B : Int)) ∧ w'.cell? ⟨w2.heap.size, 1, none⟩ = some (.int .i64 (P : Int)) ∧ w'.cell? ⟨w2.heap.size, 2, none⟩ = some (.int .i64 (W : Int)))
    ((exact ⟨zf.cells.1, zf.cells.2.1, zf.cells.2.2.1⟩))
    (first
      | (go_at_call 27
         (with_reducible refine (HL.out _).mono ?_)
         rintro en w10 ⟨rfl, b⟩
         replace hT := hT.on b
         replace hF := hF.on b
         replace zf := zf.on b
         replace rd := rd.on b
         replace zd := zd.on b
         replace BW := Lib.hid (Below.step BW.out b)
         clear b))
  replace BW := BW.out
  all_goals (
    go_upto_region 16 with fail
    clear zf
    clear hp r1 r2 hp1 hp2 ht1 ht2
    replace hT := hT.on ((Below.refl _ _).drew : Below w10.heap.size w10 w10.drew)
    replace hF := hF.on ((Below.refl _ _).drew : Below w10.heap.size w10 w10.drew)
    replace rd := rd.on ((Below.refl _ _).drew : Below w10.heap.size w10 w10.drew)
    replace zd := zd.on ((Below.refl _ _).drew : Below w10.heap.size w10 w10.drew)
    replace BW := Lib.hid (Below.step BW ((Below.refl _ _).drew : Below w10.heap.size w10 w10.drew))
    go_region_held3 (fun w' => w'.cell? ⟨w8.heap.size, 0, none⟩ = some (.bool false) ∧ w'.cell? ⟨w8.heap.size, 1, none⟩ = some (.slice V_rd v_rd v_rd) ∧ w'.cell? ⟨w8.heap.size, 2, none⟩ = some (.int .i64 de))
      ((exact ⟨zd.cells.1, zd.cells.2.1, zd.cells.2.2.1⟩))
      (first
        | (go_at_call 28
           (with_reducible refine (aw_one _).mono ?_)
           rintro en w11 ⟨V_r5, v_r5, rfl, r5, b⟩
           replace hT := hT.on b
           replace hF := hF.on b
           replace rd := rd.on b
           replace zd := zd.on b
           replace BW := Lib.hid (Below.step BW.out b)
           have lr5 := r5.le2 (by omega)
           clear b)
        | (go_at_call 21
           (with_reducible refine (dcmp_as (rd.arg (by omega)) (r5.arg (by omega)) (by omega) (by omega) hT HC.out).mono ?_)
           rintro en w12 ⟨rfl, b⟩
           replace hT := hT.on b
           replace hF := hF.on b
           replace rd := rd.on b
           replace zd := zd.on b
           replace r5 := r5.on b
           replace BW := Lib.hid (Below.step BW.out b)
           clear b))
    replace BW := BW.out
    clear r5
    go_upto_region 17 with fail
    replace hT := hT.on ((Below.refl _ _).drew : Below w12.heap.size w12 w12.drew)
    replace hF := hF.on ((Below.refl _ _).drew : Below w12.heap.size w12 w12.drew)
    replace rd := rd.on ((Below.refl _ _).drew : Below w12.heap.size w12 w12.drew)
    replace zd := zd.on ((Below.refl _ _).drew : Below w12.heap.size w12 w12.drew)
    replace BW := Lib.hid (Below.step BW ((Below.refl _ _).drew : Below w12.heap.size w12 w12.drew))
    go_region_held3 (fun w' => w'.cell? ⟨w8.heap.size, 0, none⟩ = some (.bool false) ∧ w'.cell? ⟨w8.heap.size, 1, none⟩ = some (.slice V_rd v_rd v_rd) ∧ w'.cell? ⟨w8.heap.size, 2, none⟩ = some (.int .i64 de))
      ((exact ⟨zd.cells.1, zd.cells.2.1, zd.cells.2.2.1⟩))
      (first
        | (go_at_call 28
           (with_reducible refine (aw_one _).mono ?_)
           rintro en w13 ⟨V_r6, v_r6, rfl, r6, b⟩
           replace hT := hT.on b
           replace hF := hF.on b
           replace rd := rd.on b
           replace zd := zd.on b
           replace BW := Lib.hid (Below.step BW.out b)
           have lr6 := r6.le2 (by omega)
           clear b)
        | (go_at_call 21
           (with_reducible refine (dcmp_as (rd.arg (by omega)) (r6.arg (by omega)) (by omega) (by omega) hT HD.out).mono ?_)
           rintro en w14 ⟨rfl, b⟩
           replace hT := hT.on b
           replace hF := hF.on b
           replace rd := rd.on b
           replace zd := zd.on b
           replace r6 := r6.on b
           replace BW := Lib.hid (Below.step BW.out b)
           clear b))
    replace BW := BW.out
    clear r6
    go_wp2_with fail
    go_ret
    exact ⟨rfl, BW⟩)
theorem round_lt2 {B P W M E H : Nat} {low : Int} (hf : Fm B P W M E H low) (mode : Int) (a : D) (neg : Bool) : (roundS P M E H low mode a neg).1 < 18446744073709551616 := by
  obtain ⟨b1, b2, b3, b4, b5, b6, b7, b8, b9, b10, b11, b12, b13, b14, b15⟩ := hf.bd
  have hME := ME_lt hf
  have hs : ∀ (s : Bool) (c : Nat), c ≤ M * E → sgn H s c < 18446744073709551616 := fun s c hc => by
    unfold sgn
    split <;> omega
  unfold roundS
  split
  · show 0 < _; omega
  · split
    · split
      · exact hs _ _ (by omega)
      · split
        · exact hs _ _ (by omega)
        · unfold begS
          split
          · exact hs _ _ (by omega)
          · exact hs _ _ (by omega)
    · show 0 < _; omega
theorem halfw_walk (bits mode : Int) {n0 : Bool} {A0 : Option Addr} {l0 c0 x0 : Nat} {e0 : Int} {w : World} (h0 : Arg w A0 l0 c0 x0) (hT : Tab w) (hF : Frm w) :
    Calls Tryd.prog 7 #[.int .i64 bits, .int .i64 mode, .agg #[.bool n0, .slice A0 l0 c0, .int .i64 e0]] w fun e w' => e = .returned (.bool true) ∧ Below w.heap.size w w' := by
  rcases fm_of bits with ⟨B, P, W, M, E, H, low, hf, rfl⟩ | ⟨h1, h2, h3⟩
  · by_cases m1 : mode < 0
    · exact halfw_m1 hf mode h0 hT hF (decide_eq_true m1)
    by_cases m2 : 5 ≤ mode
    · exact halfw_m2 hf mode h0 hT hF (decide_eq_false m1) (decide_eq_true m2)
    by_cases gl : 40 < (l0 : Int)
    · exact halfw_gl hf mode h0 hT hF (decide_eq_false m1) (decide_eq_false m2) (decide_eq_true gl)
    by_cases g1 : e0 < -1200
    · exact halfw_g1 hf mode h0 hT hF (decide_eq_false m1) (decide_eq_false m2) (decide_eq_false gl) (decide_eq_true g1)
    by_cases g2 : 1100 < e0
    · exact halfw_g2 hf mode h0 hT hF (decide_eq_false m1) (decide_eq_false m2) (decide_eq_false gl) (decide_eq_false g1) (decide_eq_true g2)
    by_cases hz0 : x0 = 0
    · exact halfw_gz hf mode h0 hT hF (decide_eq_false m1) (decide_eq_false m2) (decide_eq_false gl) (decide_eq_false g1) (decide_eq_false g2) (by rw [hz0, blen_zero]; rfl)
    have gz : ((blen x0 : Int) == 0) = false := by
      have := (blen_pos hz0).2
      simp
      omega
    have hx := h0.blen
    obtain ⟨k1, k2, k3, k4⟩ := law_may (a := ⟨n0, x0, e0⟩) (by simp only; omega) (by simp only; omega) (by simp only; omega)
    have b1 := round_lt2 hf mode ⟨n0, x0, e0⟩ false
    have m1' := decide_eq_false m1
    have m2' := decide_eq_false m2
    have gl' := decide_eq_false gl
    have g1' := decide_eq_false g1
    have g2' := decide_eq_false g2
    have hbb := blen_pos hz0
    have ht : topS ⟨n0, x0, e0⟩ = ((blen x0 : Int) - 1 + e0, 0) := by unfold topS; rw [k1, if_pos rfl, if_neg hz0]
    by_cases h5 : (roundS P M E H low mode ⟨n0, x0, e0⟩ false).2.1 = 5
    · obtain ⟨⟨u, fl, er⟩, hu⟩ : ∃ r, roundS P M E H low mode ⟨n0, x0, e0⟩ false = r := ⟨_, rfl⟩
      have hb := (roundS_bits (P := P) (M := M) (E := E) (H := H) (low := low) (mode := mode) ⟨by omega, by omega⟩ k2 hz0 false).2.1
      rw [hu] at h5 hb
      simp only at h5 hb
      subst h5 hb
      exact halfw_over hf mode h0 hT hF m1' m2' gl' g1' g2' gz hu ht
    · obtain ⟨p, hp⟩ : ∃ p, plcS P low ⟨n0, x0, e0⟩ = p := ⟨_, rfl⟩
      obtain ⟨k, hk, t1, t2, t3, t4⟩ := round_half hf (mode := mode) ⟨by omega, by omega⟩ (a := ⟨n0, x0, e0⟩) (by simp only; omega) (by simp only; omega) (by simp only; omega) hz0 h5 hp
      obtain ⟨d, s1, s2, s3, s4⟩ := half_sub hf (a := ⟨n0, x0, e0⟩) (by simp only; omega) (by simp only; omega) (by simp only; omega) k hk
      have hfl := (roundS_bits (P := P) (M := M) (E := E) (H := H) (low := low) (mode := mode) ⟨by omega, by omega⟩ k2 hz0 false).2.2
      obtain ⟨⟨u, fl, er⟩, hu⟩ : ∃ r, roundS P M E H low mode ⟨n0, x0, e0⟩ false = r := ⟨_, rfl⟩
      obtain ⟨dn, dx, de⟩ := d
      rw [hu] at t1 t2 hfl h5 b1
      simp only at t1 t2 hfl h5 b1 s2 s3 s4
      subst t2
      have hv := (val_abs hf n0 k hk).1
      rw [← t1] at hv
      obtain ⟨vn, vx, ve, hd⟩ : ∃ vn vx ve, D.pl ⟨n0, valN M E k, valP M E low k⟩ = ⟨vn, vx, ve⟩ := ⟨_, _, _, rfl⟩
      have hm := (val_may hf k n0).2
      simp only at s1
      rw [hd] at hv s1 hm
      obtain ⟨p1, p2⟩ := plc_bd hf k2 hz0
      have hb1 := hf.bd
      rw [hp] at p1 p2
      have mo1 : (⟨false, 1, p⟩ : D).may = true := may_small (by show 1 < 18446744073709551616; omega) (by show -8192 ≤ p; omega) (by show p ≤ 8192; omega)
      have mo2 : (⟨false, 1, p - 1⟩ : D).may = true := may_small (by show 1 < 18446744073709551616; omega) (by show -8192 ≤ p - 1; omega) (by show p - 1 ≤ 8192; omega)
      have c1 := cmpS_ok s3 mo1
      have c2 := cmpS_ok s3 mo2
      rw [s4] at c1 c2
      have q4 : bits BinOp.and IntKind.i64 fl 4 = 0 := by
        rw [hfl] at h5 ⊢
        split at h5
        · rename_i hx
          rw [if_pos hx]
          unfold flgS
          split
          · decide
          · split <;> decide
        · exact absurd rfl h5
      have hpp : max ((blen x0 : Int) - 1 + e0 - (P : Int) + 1) low = p := by
        rw [← hp]
        unfold plcS
        simp only
        omega
      rcases t4 with h | ⟨h6, h7⟩
      · exact halfw_near hf mode h0 hT hF m1' m2' gl' g1' g2' gz hu b1 q4 ht hv ((D.may_iff _).1 hm).1 s1 s2 hpp (by omega) (by omega) (by omega) (by omega) c1 c2 (decide_eq_true t3) (decide_eq_true h)
      · by_cases h : cmpI (((⟨n0, x0, e0⟩ : D).vl.natAbs : Int) - (valU M low k : Int)).natAbs (⟨false, 1, p - 1⟩ : D).vl ≤ 0
        · exact halfw_near hf mode h0 hT hF m1' m2' gl' g1' g2' gz hu b1 q4 ht hv ((D.may_iff _).1 hm).1 s1 s2 hpp (by omega) (by omega) (by omega) (by omega) c1 c2 (decide_eq_true t3) (decide_eq_true h)
        · exact halfw_far hf mode h0 hT hF m1' m2' gl' g1' g2' gz hu b1 q4 ht hv ((D.may_iff _).1 hm).1 s1 s2 hpp (by omega) (by omega) (by omega) (by omega) c1 c2 (decide_eq_true t3) (decide_eq_false h) (by simpa using h6) (by simpa using h7)
  · exact halfw_bad bits mode h1 h2 h3 h0 hT hF
end Go.Proofs.YtkjbejdeejpdoaaDoor
