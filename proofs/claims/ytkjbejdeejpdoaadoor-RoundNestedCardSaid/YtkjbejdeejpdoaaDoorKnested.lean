
/-
  The walk of the law RoundNested.
-/
import Derived.Test.YtkjbejdeejpdoaaDoorKw
import Derived.Test.YtkjbejdeejpdoaaDoorFopen
import Derived.Test.YtkjbejdeejpdoaaDoorND
import Derived.Test.YtkjbejdeejpdoaaDoorRmf
import Derived.LoopN
namespace Go.Proofs.YtkjbejdeejpdoaaDoor
open Go.RowKit
set_option linter.unusedVariables false

theorem f32 : Fm 32 24 8 8388608 255 2147483648 (-149) := .inr (.inl ⟨rfl, rfl, rfl, rfl, rfl, rfl, rfl⟩)
theorem f64 : Fm 64 53 11 4503599627370496 2047 9223372036854775808 (-1074) := .inr (.inr ⟨rfl, rfl, rfl, rfl, rfl, rfl, rfl⟩)
theorem ndx0 (w : World) : (Instr.index 66 (.agg #[.int .i64 16, .int .i64 32]) (.int .i64 0)).run Tryd.prog w = .ok (.int .i64 16) w := by kernel_rfl
theorem ndx1 (w : World) : (Instr.index 66 (.agg #[.int .i64 16, .int .i64 32]) (.int .i64 1)).run Tryd.prog w = .ok (.int .i64 32) w := by kernel_rfl
theorem to16 {A : Option Addr} {n c x : Nat} {neg : Bool} {e : Int} {w : World} (h : Arg w A n c x) (hs : n ≤ 30000) (hT : Tab w) (mode : Int) (ng : Bool) {v : Nat} {fl err : Int} (hr : roundS 11 1024 31 32768 (-24) mode ⟨neg, x, e⟩ ng = (v, fl, err)) :
    Calls Tryd.prog 19 #[.agg #[.int .i64 16, .int .i64 11, .int .i64 5], .int .i64 mode, .agg #[.bool neg, .slice A n c, .int .i64 e], .bool ng] w (ToX w v fl err) := to_as f16 h hs hT mode ng hr
theorem to32 {A : Option Addr} {n c x : Nat} {neg : Bool} {e : Int} {w : World} (h : Arg w A n c x) (hs : n ≤ 30000) (hT : Tab w) (mode : Int) (ng : Bool) {v : Nat} {fl err : Int} (hr : roundS 24 8388608 255 2147483648 (-149) mode ⟨neg, x, e⟩ ng = (v, fl, err)) :
    Calls Tryd.prog 19 #[.agg #[.int .i64 32, .int .i64 24, .int .i64 8], .int .i64 mode, .agg #[.bool neg, .slice A n c, .int .i64 e], .bool ng] w (ToX w v fl err) := to_as f32 h hs hT mode ng hr
theorem to64 {A : Option Addr} {n c x : Nat} {neg : Bool} {e : Int} {w : World} (h : Arg w A n c x) (hs : n ≤ 30000) (hT : Tab w) (mode : Int) (ng : Bool) {v : Nat} {fl err : Int} (hr : roundS 53 4503599627370496 2047 9223372036854775808 (-1074) mode ⟨neg, x, e⟩ ng = (v, fl, err)) :
    Calls Tryd.prog 19 #[.agg #[.int .i64 64, .int .i64 53, .int .i64 11], .int .i64 mode, .agg #[.bool neg, .slice A n c, .int .i64 e], .bool ng] w (ToX w v fl err) := to_as f64 h hs hT mode ng hr
theorem val64 (b : Nat) (hb : b < 18446744073709551616) {w : World} (hT : Tab w) {rn : Bool} {rx : Nat} {re err : Int} (hr : valS 4503599627370496 2047 9223372036854775808 (-1074) b = (⟨rn, rx, re⟩, err)) :
    Calls Tryd.prog 18 #[.agg #[.int .i64 64, .int .i64 53, .int .i64 11], .int .u64 (b : Int)] w (DPx w rn rx re err) := value_as f64 b hb hT hr
theorem neg64 (b : Nat) (hb : b < 18446744073709551616) (v : Bool) (hv : decide (b / 9223372036854775808 % 2 = 1) = v) (w : World) :
    Calls Tryd.prog 20 #[.agg #[.int .i64 64, .int .i64 53, .int .i64 11], .int .u64 (b : Int)] w fun e w' => e = .returned (.bool v) ∧ Below w.heap.size w w' := fneg_as f64 b hb v hv w
set_option maxRecDepth 100000 in
theorem nested_gl (mode : Int) {n0 : Bool} {A0 : Option Addr} {l0 c0 x0 : Nat} {e0 : Int} {w : World} (h0 : Arg w A0 l0 c0 x0) (hT : Tab w) (hF : Frm w)  (gl : decide (40 < (l0 : Int)) = true) : Calls Tryd.prog 8 #[.int .i64 mode, .agg #[.bool n0, .slice A0 l0 c0, .int .i64 e0]] w fun e w' => e = .returned (.bool true) ∧ Below w.heap.size w w' := by
  go_enter Tryd.func8, Tryd.ntmps8
  go_wp2_with fail
  obtain ⟨V, hV, za, BW, sW⟩ := frame1 w 25 n0 A0 l0 c0 e0
  rw [hV]
  clear hV sW
  replace hT := hT.on BW
  replace hF := hF.on BW
  replace h0 := h0.on BW
  refine (awake4_any hT hF).mono ?_
  rintro en w1 ⟨rfl, b⟩
  replace hT := hT.on b
  replace hF := hF.on b
  replace za := za.on b
  replace h0 := h0.on b
  replace BW := Below.step BW b
  clear b
  go_wp2_with fail
  refine (of_64 _ hF).mono ?_
  rintro en w2 ⟨rfl, b⟩
  replace hT := hT.on b
  replace hF := hF.on b
  replace za := za.on b
  replace h0 := h0.on b
  replace BW := Below.step BW b
  clear b
  obtain ⟨zac0, zac1, zac2, zaf0, zaf1, zaf2, zal⟩ := za.cells
  go_upto_region 4 with fail
  clear zac0 zac1 zac2 zaf0 zaf1 zaf2 zal
  obtain ⟨w3, e_w3⟩ : ∃ w', w2.alloc (.cells #[.int .i64 64, .int .i64 53, .int .i64 11] 28) = w' := ⟨_, rfl⟩
  have b : Below w2.heap.size w2 w3 := e_w3 ▸ below_lit _ _
  have hs_w3 : w3.heap.size = w2.heap.size + 1 := e_w3 ▸ size_lit w2 _ rfl
  have zw : FB w3 w2.heap.size 28 64 53 11 := e_w3 ▸ Box.made_at w2 rfl 28 (notU_int _) (notU_int _) (notU_int _)
  rw [e_w3]
  clear e_w3
  replace hT := hT.on b
  replace hF := hF.on b
  replace za := za.on b
  replace h0 := h0.on b
  replace BW := Below.step BW b
  clear b
  clear hs_w3
  obtain ⟨zwc0, zwc1, zwc2, zwf0, zwf1, zwf2, zwl⟩ := zw.cells
  obtain ⟨zac0, zac1, zac2, zaf0, zaf1, zaf2, zal⟩ := za.cells
  go_wp2_with fail
  go_ret
  exact ⟨rfl, BW⟩
set_option maxRecDepth 100000 in
theorem nested_g1 (mode : Int) {n0 : Bool} {A0 : Option Addr} {l0 c0 x0 : Nat} {e0 : Int} {w : World} (h0 : Arg w A0 l0 c0 x0) (hT : Tab w) (hF : Frm w) (gl : decide (40 < (l0 : Int)) = false) (g1 : decide (e0 < -1200) = true) : Calls Tryd.prog 8 #[.int .i64 mode, .agg #[.bool n0, .slice A0 l0 c0, .int .i64 e0]] w fun e w' => e = .returned (.bool true) ∧ Below w.heap.size w w' := by
  go_enter Tryd.func8, Tryd.ntmps8
  go_wp2_with fail
  obtain ⟨V, hV, za, BW, sW⟩ := frame1 w 25 n0 A0 l0 c0 e0
  rw [hV]
  clear hV sW
  replace hT := hT.on BW
  replace hF := hF.on BW
  replace h0 := h0.on BW
  refine (awake4_any hT hF).mono ?_
  rintro en w1 ⟨rfl, b⟩
  replace hT := hT.on b
  replace hF := hF.on b
  replace za := za.on b
  replace h0 := h0.on b
  replace BW := Below.step BW b
  clear b
  go_wp2_with fail
  refine (of_64 _ hF).mono ?_
  rintro en w2 ⟨rfl, b⟩
  replace hT := hT.on b
  replace hF := hF.on b
  replace za := za.on b
  replace h0 := h0.on b
  replace BW := Below.step BW b
  clear b
  obtain ⟨zac0, zac1, zac2, zaf0, zaf1, zaf2, zal⟩ := za.cells
  go_upto_region 4 with fail
  clear zac0 zac1 zac2 zaf0 zaf1 zaf2 zal
  obtain ⟨w3, e_w3⟩ : ∃ w', w2.alloc (.cells #[.int .i64 64, .int .i64 53, .int .i64 11] 28) = w' := ⟨_, rfl⟩
  have b : Below w2.heap.size w2 w3 := e_w3 ▸ below_lit _ _
  have hs_w3 : w3.heap.size = w2.heap.size + 1 := e_w3 ▸ size_lit w2 _ rfl
  have zw : FB w3 w2.heap.size 28 64 53 11 := e_w3 ▸ Box.made_at w2 rfl 28 (notU_int _) (notU_int _) (notU_int _)
  rw [e_w3]
  clear e_w3
  replace hT := hT.on b
  replace hF := hF.on b
  replace za := za.on b
  replace h0 := h0.on b
  replace BW := Below.step BW b
  clear b
  clear hs_w3
  obtain ⟨zwc0, zwc1, zwc2, zwf0, zwf1, zwf2, zwl⟩ := zw.cells
  obtain ⟨zac0, zac1, zac2, zaf0, zaf1, zaf2, zal⟩ := za.cells
  go_wp2_with fail
  go_ret
  exact ⟨rfl, BW⟩
set_option maxRecDepth 100000 in
theorem nested_g2 (mode : Int) {n0 : Bool} {A0 : Option Addr} {l0 c0 x0 : Nat} {e0 : Int} {w : World} (h0 : Arg w A0 l0 c0 x0) (hT : Tab w) (hF : Frm w) (gl : decide (40 < (l0 : Int)) = false) (g1 : decide (e0 < -1200) = false) (g2 : decide (1100 < e0) = true) : Calls Tryd.prog 8 #[.int .i64 mode, .agg #[.bool n0, .slice A0 l0 c0, .int .i64 e0]] w fun e w' => e = .returned (.bool true) ∧ Below w.heap.size w w' := by
  go_enter Tryd.func8, Tryd.ntmps8
  go_wp2_with fail
  obtain ⟨V, hV, za, BW, sW⟩ := frame1 w 25 n0 A0 l0 c0 e0
  rw [hV]
  clear hV sW
  replace hT := hT.on BW
  replace hF := hF.on BW
  replace h0 := h0.on BW
  refine (awake4_any hT hF).mono ?_
  rintro en w1 ⟨rfl, b⟩
  replace hT := hT.on b
  replace hF := hF.on b
  replace za := za.on b
  replace h0 := h0.on b
  replace BW := Below.step BW b
  clear b
  go_wp2_with fail
  refine (of_64 _ hF).mono ?_
  rintro en w2 ⟨rfl, b⟩
  replace hT := hT.on b
  replace hF := hF.on b
  replace za := za.on b
  replace h0 := h0.on b
  replace BW := Below.step BW b
  clear b
  obtain ⟨zac0, zac1, zac2, zaf0, zaf1, zaf2, zal⟩ := za.cells
  go_upto_region 4 with fail
  clear zac0 zac1 zac2 zaf0 zaf1 zaf2 zal
  obtain ⟨w3, e_w3⟩ : ∃ w', w2.alloc (.cells #[.int .i64 64, .int .i64 53, .int .i64 11] 28) = w' := ⟨_, rfl⟩
  have b : Below w2.heap.size w2 w3 := e_w3 ▸ below_lit _ _
  have hs_w3 : w3.heap.size = w2.heap.size + 1 := e_w3 ▸ size_lit w2 _ rfl
  have zw : FB w3 w2.heap.size 28 64 53 11 := e_w3 ▸ Box.made_at w2 rfl 28 (notU_int _) (notU_int _) (notU_int _)
  rw [e_w3]
  clear e_w3
  replace hT := hT.on b
  replace hF := hF.on b
  replace za := za.on b
  replace h0 := h0.on b
  replace BW := Below.step BW b
  clear b
  clear hs_w3
  obtain ⟨zwc0, zwc1, zwc2, zwf0, zwf1, zwf2, zwl⟩ := zw.cells
  obtain ⟨zac0, zac1, zac2, zaf0, zaf1, zaf2, zal⟩ := za.cells
  go_wp2_with fail
  go_ret
  exact ⟨rfl, BW⟩
set_option maxRecDepth 100000 in
theorem nested_gm (mode : Int) {n0 : Bool} {A0 : Option Addr} {l0 c0 x0 : Nat} {e0 : Int} {w : World} (h0 : Arg w A0 l0 c0 x0) (hT : Tab w) (hF : Frm w) (gl : decide (40 < (l0 : Int)) = false) (g1 : decide (e0 < -1200) = false) (g2 : decide (1100 < e0) = false) (m1 : (mode != 1) = true) (m2 : (mode != 2) = true) (m3 : (mode != 3) = true) : Calls Tryd.prog 8 #[.int .i64 mode, .agg #[.bool n0, .slice A0 l0 c0, .int .i64 e0]] w fun e w' => e = .returned (.bool true) ∧ Below w.heap.size w w' := by
  go_enter Tryd.func8, Tryd.ntmps8
  go_wp2_with fail
  obtain ⟨V, hV, za, BW, sW⟩ := frame1 w 25 n0 A0 l0 c0 e0
  rw [hV]
  clear hV sW
  replace hT := hT.on BW
  replace hF := hF.on BW
  replace h0 := h0.on BW
  refine (awake4_any hT hF).mono ?_
  rintro en w1 ⟨rfl, b⟩
  replace hT := hT.on b
  replace hF := hF.on b
  replace za := za.on b
  replace h0 := h0.on b
  replace BW := Below.step BW b
  clear b
  go_wp2_with fail
  refine (of_64 _ hF).mono ?_
  rintro en w2 ⟨rfl, b⟩
  replace hT := hT.on b
  replace hF := hF.on b
  replace za := za.on b
  replace h0 := h0.on b
  replace BW := Below.step BW b
  clear b
  obtain ⟨zac0, zac1, zac2, zaf0, zaf1, zaf2, zal⟩ := za.cells
  go_upto_region 4 with fail
  clear zac0 zac1 zac2 zaf0 zaf1 zaf2 zal
  obtain ⟨w3, e_w3⟩ : ∃ w', w2.alloc (.cells #[.int .i64 64, .int .i64 53, .int .i64 11] 28) = w' := ⟨_, rfl⟩
  have b : Below w2.heap.size w2 w3 := e_w3 ▸ below_lit _ _
  have hs_w3 : w3.heap.size = w2.heap.size + 1 := e_w3 ▸ size_lit w2 _ rfl
  have zw : FB w3 w2.heap.size 28 64 53 11 := e_w3 ▸ Box.made_at w2 rfl 28 (notU_int _) (notU_int _) (notU_int _)
  rw [e_w3]
  clear e_w3
  replace hT := hT.on b
  replace hF := hF.on b
  replace za := za.on b
  replace h0 := h0.on b
  replace BW := Below.step BW b
  clear b
  clear hs_w3
  obtain ⟨zwc0, zwc1, zwc2, zwf0, zwf1, zwf2, zwl⟩ := zw.cells
  obtain ⟨zac0, zac1, zac2, zaf0, zaf1, zaf2, zal⟩ := za.cells
  go_wp2_with fail
  go_ret
  exact ⟨rfl, BW⟩
set_option maxRecDepth 100000 in
theorem nested_over_1 {n0 : Bool} {A0 : Option Addr} {l0 c0 x0 : Nat} {e0 : Int} {w : World} (h0 : Arg w A0 l0 c0 x0) (hT : Tab w) (hF : Frm w) (gl : decide (40 < (l0 : Int)) = false) (g1 : decide (e0 < -1200) = false) (g2 : decide (1100 < e0) = false) {u : Nat} (HA : Hid (roundS 53 4503599627370496 2047 9223372036854775808 (-1074) 1 ⟨n0, x0, e0⟩ false = (u, 5, 0))) : Calls Tryd.prog 8 #[.int .i64 1, .agg #[.bool n0, .slice A0 l0 c0, .int .i64 e0]] w fun e w' => e = .returned (.bool true) ∧ Below w.heap.size w w' := by
  have gl' := of_decide_eq_false gl
  go_enter Tryd.func8, Tryd.ntmps8
  go_wp2_with fail
  obtain ⟨V, hV, za, BW, sW⟩ := frame1 w 25 n0 A0 l0 c0 e0
  rw [hV]
  clear hV sW
  replace hT := hT.on BW
  replace hF := hF.on BW
  replace h0 := h0.on BW
  refine (awake4_any hT hF).mono ?_
  rintro en w1 ⟨rfl, b⟩
  replace hT := hT.on b
  replace hF := hF.on b
  replace za := za.on b
  replace h0 := h0.on b
  replace BW := Below.step BW b
  clear b
  go_wp2_with fail
  refine (of_64 _ hF).mono ?_
  rintro en w2 ⟨rfl, b⟩
  replace hT := hT.on b
  replace hF := hF.on b
  replace za := za.on b
  replace h0 := h0.on b
  replace BW := Below.step BW b
  clear b
  obtain ⟨zac0, zac1, zac2, zaf0, zaf1, zaf2, zal⟩ := za.cells
  go_upto_region 4 with fail
  clear zac0 zac1 zac2 zaf0 zaf1 zaf2 zal
  obtain ⟨w3, e_w3⟩ : ∃ w', w2.alloc (.cells #[.int .i64 64, .int .i64 53, .int .i64 11] 28) = w' := ⟨_, rfl⟩
  have b : Below w2.heap.size w2 w3 := e_w3 ▸ below_lit _ _
  have hs_w3 : w3.heap.size = w2.heap.size + 1 := e_w3 ▸ size_lit w2 _ rfl
  have zw : FB w3 w2.heap.size 28 64 53 11 := e_w3 ▸ Box.made_at w2 rfl 28 (notU_int _) (notU_int _) (notU_int _)
  rw [e_w3]
  clear e_w3
  replace hT := hT.on b
  replace hF := hF.on b
  replace za := za.on b
  replace h0 := h0.on b
  replace BW := Below.step BW b
  clear b
  clear hs_w3
  obtain ⟨zwc0, zwc1, zwc2, zwf0, zwf1, zwf2, zwl⟩ := zw.cells
  obtain ⟨zac0, zac1, zac2, zaf0, zaf1, zaf2, zal⟩ := za.cells
  go_wp2_with fail
  refine (to64 h0 (by omega) hT _ false HA.out).mono ?_
  rintro en w4 ⟨rfl, b⟩
  clear zwc0 zwc1 zwc2 zwf0 zwf1 zwf2 zwl zac0 zac1 zac2 zaf0 zaf1 zaf2 zal
  replace hT := hT.on b
  replace hF := hF.on b
  replace za := za.on b
  replace h0 := h0.on b
  replace zw := zw.on b
  replace BW := Below.step BW b
  clear b
  obtain ⟨zwc0, zwc1, zwc2, zwf0, zwf1, zwf2, zwl⟩ := zw.cells
  obtain ⟨zac0, zac1, zac2, zaf0, zaf1, zaf2, zal⟩ := za.cells
  go_wp2_with fail
  go_ret
  exact ⟨rfl, BW⟩
set_option maxHeartbeats 4000000 in
set_option maxRecDepth 100000 in
theorem nested_main_1 {n0 : Bool} {A0 : Option Addr} {l0 c0 x0 : Nat} {e0 : Int} {w : World} (h0 : Arg w A0 l0 c0 x0) (hT : Tab w) (hF : Frm w) (gl : decide (40 < (l0 : Int)) = false) (g1 : decide (e0 < -1200) = false) (g2 : decide (1100 < e0) = false) {u p q : Nat} {fl f1 f2 f3 f4 : Int} (HA : Hid (roundS 53 4503599627370496 2047 9223372036854775808 (-1074) 1 ⟨n0, x0, e0⟩ false = (u, fl, 0))) (q4 : bits BinOp.and IntKind.i64 fl 4 = 0) (hu : u < 18446744073709551616)
    {vn s : Bool} {vx : Nat} {ve : Int} (HV : Hid (valS 4503599627370496 2047 9223372036854775808 (-1074) u = (⟨vn, vx, ve⟩, 0))) (hlv : blen vx ≤ 4096) (HN : Hid (decide (u / 9223372036854775808 % 2 = 1) = s))
    (HB16 : Hid (roundS 11 1024 31 32768 (-24) 1 ⟨n0, x0, e0⟩ false = (p, f1, 0))) (HC16 : Hid (roundS 11 1024 31 32768 (-24) 1 ⟨vn, vx, ve⟩ s = (p, f2, 0)))
    (HB32 : Hid (roundS 24 8388608 255 2147483648 (-149) 1 ⟨n0, x0, e0⟩ false = (q, f3, 0))) (HC32 : Hid (roundS 24 8388608 255 2147483648 (-149) 1 ⟨vn, vx, ve⟩ s = (q, f4, 0))) : Calls Tryd.prog 8 #[.int .i64 1, .agg #[.bool n0, .slice A0 l0 c0, .int .i64 e0]] w fun e w' => e = .returned (.bool true) ∧ Below w.heap.size w w' := by
  have gl' := of_decide_eq_false gl
  go_enter Tryd.func8, Tryd.ntmps8
  go_wp2_with fail
  obtain ⟨V, hV, za, BW, sW⟩ := frame1 w 25 n0 A0 l0 c0 e0
  rw [hV]
  clear hV sW
  replace hT := hT.on BW
  replace hF := hF.on BW
  replace h0 := h0.on BW
  refine (awake4_any hT hF).mono ?_
  rintro en w1 ⟨rfl, b⟩
  replace hT := hT.on b
  replace hF := hF.on b
  replace za := za.on b
  replace h0 := h0.on b
  replace BW := Below.step BW b
  clear b
  go_wp2_with fail
  refine (of_64 _ hF).mono ?_
  rintro en w2 ⟨rfl, b⟩
  replace hT := hT.on b
  replace hF := hF.on b
  replace za := za.on b
  replace h0 := h0.on b
  replace BW := Below.step BW b
  clear b
  obtain ⟨zac0, zac1, zac2, zaf0, zaf1, zaf2, zal⟩ := za.cells
  go_upto_region 4 with fail
  clear zac0 zac1 zac2 zaf0 zaf1 zaf2 zal
  obtain ⟨w3, e_w3⟩ : ∃ w', w2.alloc (.cells #[.int .i64 64, .int .i64 53, .int .i64 11] 28) = w' := ⟨_, rfl⟩
  have b : Below w2.heap.size w2 w3 := e_w3 ▸ below_lit _ _
  have hs_w3 : w3.heap.size = w2.heap.size + 1 := e_w3 ▸ size_lit w2 _ rfl
  have zw : FB w3 w2.heap.size 28 64 53 11 := e_w3 ▸ Box.made_at w2 rfl 28 (notU_int _) (notU_int _) (notU_int _)
  rw [e_w3]
  clear e_w3
  replace hT := hT.on b
  replace hF := hF.on b
  replace za := za.on b
  replace h0 := h0.on b
  replace BW := Below.step BW b
  clear b
  clear hs_w3
  obtain ⟨zwc0, zwc1, zwc2, zwf0, zwf1, zwf2, zwl⟩ := zw.cells
  obtain ⟨zac0, zac1, zac2, zaf0, zaf1, zaf2, zal⟩ := za.cells
  go_wp2_with fail
  refine (to64 h0 (by omega) hT _ false HA.out).mono ?_
  rintro en w4 ⟨rfl, b⟩
  clear zwc0 zwc1 zwc2 zwf0 zwf1 zwf2 zwl zac0 zac1 zac2 zaf0 zaf1 zaf2 zal
  replace hT := hT.on b
  replace hF := hF.on b
  replace za := za.on b
  replace h0 := h0.on b
  replace zw := zw.on b
  replace BW := Below.step BW b
  clear b
  obtain ⟨zwc0, zwc1, zwc2, zwf0, zwf1, zwf2, zwl⟩ := zw.cells
  obtain ⟨zac0, zac1, zac2, zaf0, zaf1, zaf2, zal⟩ := za.cells
  go_wp2_with fail
  refine (val64 u hu hT HV.out).mono ?_
  rintro en w5 ⟨V_rv, v_rv, rfl, rv, b⟩
  clear zwc0 zwc1 zwc2 zwf0 zwf1 zwf2 zwl zac0 zac1 zac2 zaf0 zaf1 zaf2 zal
  replace hT := hT.on b
  replace hF := hF.on b
  replace za := za.on b
  replace h0 := h0.on b
  replace zw := zw.on b
  replace BW := Below.step BW b
  clear b
  have lv := res_n_le rv (k := 128) hlv
  obtain ⟨zwc0, zwc1, zwc2, zwf0, zwf1, zwf2, zwl⟩ := zw.cells
  obtain ⟨zac0, zac1, zac2, zaf0, zaf1, zaf2, zal⟩ := za.cells
  go_upto_region 12 with fail
  clear zwc0 zwc1 zwc2 zwf0 zwf1 zwf2 zwl zac0 zac1 zac2 zaf0 zaf1 zaf2 zal
  obtain ⟨w6, e_w6⟩ : ∃ w', w5.alloc (dob vn V_rv v_rv v_rv ve 25) = w' := ⟨_, rfl⟩
  have b : Below w5.heap.size w5 w6 := e_w6 ▸ below_lit _ _
  have hs_w6 : w6.heap.size = w5.heap.size + 1 := e_w6 ▸ size_lit w5 _ rfl
  have zv : DB w6 w5.heap.size 25 vn V_rv v_rv v_rv ve := e_w6 ▸ DB.made w5 rfl 25 vn V_rv v_rv v_rv ve
  rw [e_w6]
  clear e_w6
  replace hT := hT.on b
  replace hF := hF.on b
  replace za := za.on b
  replace h0 := h0.on b
  replace zw := zw.on b
  replace rv := rv.on b
  replace BW := Below.step BW b
  clear b
  clear hs_w6
  have ix0 := ndx0
  have ix1 := ndx1
  go_wp2_with fail
  refine wp_loop_rounds 3 ?_
  rw [rounds_succ]
  go_wp2_with fail
  refine (of_16 _ hF).mono ?_
  rintro en w7 ⟨rfl, b⟩
  replace hT := hT.on b
  replace hF := hF.on b
  replace za := za.on b
  replace h0 := h0.on b
  replace zw := zw.on b
  replace rv := rv.on b
  replace zv := zv.on b
  replace BW := Below.step BW b
  clear b
  obtain ⟨zac0, zac1, zac2, zaf0, zaf1, zaf2, zal⟩ := za.cells
  obtain ⟨zvc0, zvc1, zvc2, zvf0, zvf1, zvf2, zvl⟩ := zv.cells
  go_upto_region 16 with fail
  clear zac0 zac1 zac2 zaf0 zaf1 zaf2 zal zvc0 zvc1 zvc2 zvf0 zvf1 zvf2 zvl
  obtain ⟨w8, e_w8⟩ : ∃ w', w7.alloc (.cells #[.int .i64 16, .int .i64 11, .int .i64 5] 28) = w' := ⟨_, rfl⟩
  have b : Below w7.heap.size w7 w8 := e_w8 ▸ below_lit _ _
  have hs_w8 : w8.heap.size = w7.heap.size + 1 := e_w8 ▸ size_lit w7 _ rfl
  have zg : FB w8 w7.heap.size 28 16 11 5 := e_w8 ▸ Box.made_at w7 rfl 28 (notU_int _) (notU_int _) (notU_int _)
  rw [e_w8]
  clear e_w8
  replace hT := hT.on b
  replace hF := hF.on b
  replace za := za.on b
  replace h0 := h0.on b
  replace zw := zw.on b
  replace rv := rv.on b
  replace zv := zv.on b
  replace BW := Below.step BW b
  clear b
  clear hs_w8
  obtain ⟨zgc0, zgc1, zgc2, zgf0, zgf1, zgf2, zgl⟩ := zg.cells
  obtain ⟨zac0, zac1, zac2, zaf0, zaf1, zaf2, zal⟩ := za.cells
  go_wp2_with fail
  refine (to16 h0 (by omega) hT _ false HB16.out).mono ?_
  rintro en w9 ⟨rfl, b⟩
  clear zgc0 zgc1 zgc2 zgf0 zgf1 zgf2 zgl zac0 zac1 zac2 zaf0 zaf1 zaf2 zal
  replace hT := hT.on b
  replace hF := hF.on b
  replace za := za.on b
  replace h0 := h0.on b
  replace zw := zw.on b
  replace rv := rv.on b
  replace zv := zv.on b
  replace zg := zg.on b
  replace BW := Below.step BW b
  clear b
  go_upto_region 17 with fail
  replace hT := hT.on ((Below.refl _ _).drew : Below w9.heap.size w9 w9.drew)
  replace hF := hF.on ((Below.refl _ _).drew : Below w9.heap.size w9 w9.drew)
  replace za := za.on ((Below.refl _ _).drew : Below w9.heap.size w9 w9.drew)
  replace h0 := h0.on ((Below.refl _ _).drew : Below w9.heap.size w9 w9.drew)
  replace zw := zw.on ((Below.refl _ _).drew : Below w9.heap.size w9 w9.drew)
  replace rv := rv.on ((Below.refl _ _).drew : Below w9.heap.size w9 w9.drew)
  replace zv := zv.on ((Below.refl _ _).drew : Below w9.heap.size w9 w9.drew)
  replace zg := zg.on ((Below.refl _ _).drew : Below w9.heap.size w9 w9.drew)
  replace BW := Lib.hid (Below.step BW ((Below.refl _ _).drew : Below w9.heap.size w9 w9.drew))
  go_region_held3 (fun w' => w'.cell? ⟨w7.heap.size, 0, none⟩ = some (.int .i64 16) ∧ w'.cell? ⟨w7.heap.size, 1, none⟩ = some (.int .i64 11) ∧ w'.cell? ⟨w7.heap.size, 2, none⟩ = some (.int .i64 5) ∧ w'.cell? ⟨w5.heap.size, 0, none⟩ = some (.bool vn) ∧ w'.cell? ⟨w5.heap.size, 1, none⟩ = some (.slice V_rv v_rv v_rv) ∧ w'.cell? ⟨w5.heap.size, 2, none⟩ = some (.int .i64 ve) ∧ w'.cell? ⟨w2.heap.size, 0, none⟩ = some (.int .i64 64) ∧ w'.cell? ⟨w2.heap.size, 1, none⟩ = some (.int .i64 53) ∧ w'.cell? ⟨w2.heap.size, 2, none⟩ = some (.int .i64 11))
    ((exact ⟨zg.cells.1, zg.cells.2.1, zg.cells.2.2.1, zv.cells.1, zv.cells.2.1, zv.cells.2.2.1, zw.cells.1, zw.cells.2.1, zw.cells.2.2.1⟩))
    (first
      | (go_at_call 20
         (with_reducible refine (neg64 u hu s HN.out _).mono ?_)
         rintro en w10 ⟨rfl, b⟩
         replace hT := hT.on b
         replace hF := hF.on b
         replace za := za.on b
         replace h0 := h0.on b
         replace zw := zw.on b
         replace rv := rv.on b
         replace zv := zv.on b
         replace zg := zg.on b
         replace BW := Lib.hid (Below.step BW.out b)
         clear b)
      | (go_at_call 19
         (with_reducible refine (to16 (rv.arg (by omega)) (by omega) hT _ s HC16.out).mono ?_)
         rintro en w11 ⟨rfl, b⟩
         replace hT := hT.on b
         replace hF := hF.on b
         replace za := za.on b
         replace h0 := h0.on b
         replace zw := zw.on b
         replace rv := rv.on b
         replace zv := zv.on b
         replace zg := zg.on b
         replace BW := Lib.hid (Below.step BW.out b)
         clear b))
  replace BW := BW.out
  go_wp2_with fail
  clear zg
  rw [rounds_succ]
  go_wp2_with fail
  refine (of_32 _ hF).mono ?_
  rintro en w12 ⟨rfl, b⟩
  replace hT := hT.on b
  replace hF := hF.on b
  replace za := za.on b
  replace h0 := h0.on b
  replace zw := zw.on b
  replace rv := rv.on b
  replace zv := zv.on b
  replace BW := Below.step BW b
  clear b
  obtain ⟨zac0, zac1, zac2, zaf0, zaf1, zaf2, zal⟩ := za.cells
  obtain ⟨zvc0, zvc1, zvc2, zvf0, zvf1, zvf2, zvl⟩ := zv.cells
  go_upto_region 16 with fail
  clear zac0 zac1 zac2 zaf0 zaf1 zaf2 zal zvc0 zvc1 zvc2 zvf0 zvf1 zvf2 zvl
  obtain ⟨w13, e_w13⟩ : ∃ w', w12.alloc (.cells #[.int .i64 32, .int .i64 24, .int .i64 8] 28) = w' := ⟨_, rfl⟩
  have b : Below w12.heap.size w12 w13 := e_w13 ▸ below_lit _ _
  have hs_w13 : w13.heap.size = w12.heap.size + 1 := e_w13 ▸ size_lit w12 _ rfl
  have zg : FB w13 w12.heap.size 28 32 24 8 := e_w13 ▸ Box.made_at w12 rfl 28 (notU_int _) (notU_int _) (notU_int _)
  rw [e_w13]
  clear e_w13
  replace hT := hT.on b
  replace hF := hF.on b
  replace za := za.on b
  replace h0 := h0.on b
  replace zw := zw.on b
  replace rv := rv.on b
  replace zv := zv.on b
  replace BW := Below.step BW b
  clear b
  clear hs_w13
  obtain ⟨zgc0, zgc1, zgc2, zgf0, zgf1, zgf2, zgl⟩ := zg.cells
  obtain ⟨zac0, zac1, zac2, zaf0, zaf1, zaf2, zal⟩ := za.cells
  go_wp2_with fail
  refine (to32 h0 (by omega) hT _ false HB32.out).mono ?_
  rintro en w14 ⟨rfl, b⟩
  clear zgc0 zgc1 zgc2 zgf0 zgf1 zgf2 zgl zac0 zac1 zac2 zaf0 zaf1 zaf2 zal
  replace hT := hT.on b
  replace hF := hF.on b
  replace za := za.on b
  replace h0 := h0.on b
  replace zw := zw.on b
  replace rv := rv.on b
  replace zv := zv.on b
  replace zg := zg.on b
  replace BW := Below.step BW b
  clear b
  go_upto_region 17 with fail
  replace hT := hT.on ((Below.refl _ _).drew : Below w14.heap.size w14 w14.drew)
  replace hF := hF.on ((Below.refl _ _).drew : Below w14.heap.size w14 w14.drew)
  replace za := za.on ((Below.refl _ _).drew : Below w14.heap.size w14 w14.drew)
  replace h0 := h0.on ((Below.refl _ _).drew : Below w14.heap.size w14 w14.drew)
  replace zw := zw.on ((Below.refl _ _).drew : Below w14.heap.size w14 w14.drew)
  replace rv := rv.on ((Below.refl _ _).drew : Below w14.heap.size w14 w14.drew)
  replace zv := zv.on ((Below.refl _ _).drew : Below w14.heap.size w14 w14.drew)
  replace zg := zg.on ((Below.refl _ _).drew : Below w14.heap.size w14 w14.drew)
  replace BW := Lib.hid (Below.step BW ((Below.refl _ _).drew : Below w14.heap.size w14 w14.drew))
  go_region_held3 (fun w' => w'.cell? ⟨w12.heap.size, 0, none⟩ = some (.int .i64 32) ∧ w'.cell? ⟨w12.heap.size, 1, none⟩ = some (.int .i64 24) ∧ w'.cell? ⟨w12.heap.size, 2, none⟩ = some (.int .i64 8) ∧ w'.cell? ⟨w5.heap.size, 0, none⟩ = some (.bool vn) ∧ w'.cell? ⟨w5.heap.size, 1, none⟩ = some (.slice V_rv v_rv v_rv) ∧ w'.cell? ⟨w5.heap.size, 2, none⟩ = some (.int .i64 ve) ∧ w'.cell? ⟨w2.heap.size, 0, none⟩ = some (.int .i64 64) ∧ w'.cell? ⟨w2.heap.size, 1, none⟩ = some (.int .i64 53) ∧ w'.cell? ⟨w2.heap.size, 2, none⟩ = some (.int .i64 11))
    ((exact ⟨zg.cells.1, zg.cells.2.1, zg.cells.2.2.1, zv.cells.1, zv.cells.2.1, zv.cells.2.2.1, zw.cells.1, zw.cells.2.1, zw.cells.2.2.1⟩))
    (first
      | (go_at_call 20
         (with_reducible refine (neg64 u hu s HN.out _).mono ?_)
         rintro en w15 ⟨rfl, b⟩
         replace hT := hT.on b
         replace hF := hF.on b
         replace za := za.on b
         replace h0 := h0.on b
         replace zw := zw.on b
         replace rv := rv.on b
         replace zv := zv.on b
         replace zg := zg.on b
         replace BW := Lib.hid (Below.step BW.out b)
         clear b)
      | (go_at_call 19
         (with_reducible refine (to32 (rv.arg (by omega)) (by omega) hT _ s HC32.out).mono ?_)
         rintro en w16 ⟨rfl, b⟩
         replace hT := hT.on b
         replace hF := hF.on b
         replace za := za.on b
         replace h0 := h0.on b
         replace zw := zw.on b
         replace rv := rv.on b
         replace zv := zv.on b
         replace zg := zg.on b
         replace BW := Lib.hid (Below.step BW.out b)
         clear b))
  replace BW := BW.out
  go_wp2_with fail
  clear zg
  rw [rounds_succ]
  go_wp2_with fail
  go_ret
  exact ⟨rfl, BW⟩
set_option maxRecDepth 100000 in
theorem nested_over_2 {n0 : Bool} {A0 : Option Addr} {l0 c0 x0 : Nat} {e0 : Int} {w : World} (h0 : Arg w A0 l0 c0 x0) (hT : Tab w) (hF : Frm w) (gl : decide (40 < (l0 : Int)) = false) (g1 : decide (e0 < -1200) = false) (g2 : decide (1100 < e0) = false) {u : Nat} (HA : Hid (roundS 53 4503599627370496 2047 9223372036854775808 (-1074) 2 ⟨n0, x0, e0⟩ false = (u, 5, 0))) : Calls Tryd.prog 8 #[.int .i64 2, .agg #[.bool n0, .slice A0 l0 c0, .int .i64 e0]] w fun e w' => e = .returned (.bool true) ∧ Below w.heap.size w w' := by
  have gl' := of_decide_eq_false gl
  go_enter Tryd.func8, Tryd.ntmps8
  go_wp2_with fail
  obtain ⟨V, hV, za, BW, sW⟩ := frame1 w 25 n0 A0 l0 c0 e0
  rw [hV]
  clear hV sW
  replace hT := hT.on BW
  replace hF := hF.on BW
  replace h0 := h0.on BW
  refine (awake4_any hT hF).mono ?_
  rintro en w1 ⟨rfl, b⟩
  replace hT := hT.on b
  replace hF := hF.on b
  replace za := za.on b
  replace h0 := h0.on b
  replace BW := Below.step BW b
  clear b
  go_wp2_with fail
  refine (of_64 _ hF).mono ?_
  rintro en w2 ⟨rfl, b⟩
  replace hT := hT.on b
  replace hF := hF.on b
  replace za := za.on b
  replace h0 := h0.on b
  replace BW := Below.step BW b
  clear b
  obtain ⟨zac0, zac1, zac2, zaf0, zaf1, zaf2, zal⟩ := za.cells
  go_upto_region 4 with fail
  clear zac0 zac1 zac2 zaf0 zaf1 zaf2 zal
  obtain ⟨w3, e_w3⟩ : ∃ w', w2.alloc (.cells #[.int .i64 64, .int .i64 53, .int .i64 11] 28) = w' := ⟨_, rfl⟩
  have b : Below w2.heap.size w2 w3 := e_w3 ▸ below_lit _ _
  have hs_w3 : w3.heap.size = w2.heap.size + 1 := e_w3 ▸ size_lit w2 _ rfl
  have zw : FB w3 w2.heap.size 28 64 53 11 := e_w3 ▸ Box.made_at w2 rfl 28 (notU_int _) (notU_int _) (notU_int _)
  rw [e_w3]
  clear e_w3
  replace hT := hT.on b
  replace hF := hF.on b
  replace za := za.on b
  replace h0 := h0.on b
  replace BW := Below.step BW b
  clear b
  clear hs_w3
  obtain ⟨zwc0, zwc1, zwc2, zwf0, zwf1, zwf2, zwl⟩ := zw.cells
  obtain ⟨zac0, zac1, zac2, zaf0, zaf1, zaf2, zal⟩ := za.cells
  go_wp2_with fail
  refine (to64 h0 (by omega) hT _ false HA.out).mono ?_
  rintro en w4 ⟨rfl, b⟩
  clear zwc0 zwc1 zwc2 zwf0 zwf1 zwf2 zwl zac0 zac1 zac2 zaf0 zaf1 zaf2 zal
  replace hT := hT.on b
  replace hF := hF.on b
  replace za := za.on b
  replace h0 := h0.on b
  replace zw := zw.on b
  replace BW := Below.step BW b
  clear b
  obtain ⟨zwc0, zwc1, zwc2, zwf0, zwf1, zwf2, zwl⟩ := zw.cells
  obtain ⟨zac0, zac1, zac2, zaf0, zaf1, zaf2, zal⟩ := za.cells
  go_wp2_with fail
  go_ret
  exact ⟨rfl, BW⟩
set_option maxHeartbeats 4000000 in
set_option maxRecDepth 100000 in
theorem nested_main_2 {n0 : Bool} {A0 : Option Addr} {l0 c0 x0 : Nat} {e0 : Int} {w : World} (h0 : Arg w A0 l0 c0 x0) (hT : Tab w) (hF : Frm w) (gl : decide (40 < (l0 : Int)) = false) (g1 : decide (e0 < -1200) = false) (g2 : decide (1100 < e0) = false) {u p q : Nat} {fl f1 f2 f3 f4 : Int} (HA : Hid (roundS 53 4503599627370496 2047 9223372036854775808 (-1074) 2 ⟨n0, x0, e0⟩ false = (u, fl, 0))) (q4 : bits BinOp.and IntKind.i64 fl 4 = 0) (hu : u < 18446744073709551616)
    {vn s : Bool} {vx : Nat} {ve : Int} (HV : Hid (valS 4503599627370496 2047 9223372036854775808 (-1074) u = (⟨vn, vx, ve⟩, 0))) (hlv : blen vx ≤ 4096) (HN : Hid (decide (u / 9223372036854775808 % 2 = 1) = s))
    (HB16 : Hid (roundS 11 1024 31 32768 (-24) 2 ⟨n0, x0, e0⟩ false = (p, f1, 0))) (HC16 : Hid (roundS 11 1024 31 32768 (-24) 2 ⟨vn, vx, ve⟩ s = (p, f2, 0)))
    (HB32 : Hid (roundS 24 8388608 255 2147483648 (-149) 2 ⟨n0, x0, e0⟩ false = (q, f3, 0))) (HC32 : Hid (roundS 24 8388608 255 2147483648 (-149) 2 ⟨vn, vx, ve⟩ s = (q, f4, 0))) : Calls Tryd.prog 8 #[.int .i64 2, .agg #[.bool n0, .slice A0 l0 c0, .int .i64 e0]] w fun e w' => e = .returned (.bool true) ∧ Below w.heap.size w w' := by
  have gl' := of_decide_eq_false gl
  go_enter Tryd.func8, Tryd.ntmps8
  go_wp2_with fail
  obtain ⟨V, hV, za, BW, sW⟩ := frame1 w 25 n0 A0 l0 c0 e0
  rw [hV]
  clear hV sW
  replace hT := hT.on BW
  replace hF := hF.on BW
  replace h0 := h0.on BW
  refine (awake4_any hT hF).mono ?_
  rintro en w1 ⟨rfl, b⟩
  replace hT := hT.on b
  replace hF := hF.on b
  replace za := za.on b
  replace h0 := h0.on b
  replace BW := Below.step BW b
  clear b
  go_wp2_with fail
  refine (of_64 _ hF).mono ?_
  rintro en w2 ⟨rfl, b⟩
  replace hT := hT.on b
  replace hF := hF.on b
  replace za := za.on b
  replace h0 := h0.on b
  replace BW := Below.step BW b
  clear b
  obtain ⟨zac0, zac1, zac2, zaf0, zaf1, zaf2, zal⟩ := za.cells
  go_upto_region 4 with fail
  clear zac0 zac1 zac2 zaf0 zaf1 zaf2 zal
  obtain ⟨w3, e_w3⟩ : ∃ w', w2.alloc (.cells #[.int .i64 64, .int .i64 53, .int .i64 11] 28) = w' := ⟨_, rfl⟩
  have b : Below w2.heap.size w2 w3 := e_w3 ▸ below_lit _ _
  have hs_w3 : w3.heap.size = w2.heap.size + 1 := e_w3 ▸ size_lit w2 _ rfl
  have zw : FB w3 w2.heap.size 28 64 53 11 := e_w3 ▸ Box.made_at w2 rfl 28 (notU_int _) (notU_int _) (notU_int _)
  rw [e_w3]
  clear e_w3
  replace hT := hT.on b
  replace hF := hF.on b
  replace za := za.on b
  replace h0 := h0.on b
  replace BW := Below.step BW b
  clear b
  clear hs_w3
  obtain ⟨zwc0, zwc1, zwc2, zwf0, zwf1, zwf2, zwl⟩ := zw.cells
  obtain ⟨zac0, zac1, zac2, zaf0, zaf1, zaf2, zal⟩ := za.cells
  go_wp2_with fail
  refine (to64 h0 (by omega) hT _ false HA.out).mono ?_
  rintro en w4 ⟨rfl, b⟩
  clear zwc0 zwc1 zwc2 zwf0 zwf1 zwf2 zwl zac0 zac1 zac2 zaf0 zaf1 zaf2 zal
  replace hT := hT.on b
  replace hF := hF.on b
  replace za := za.on b
  replace h0 := h0.on b
  replace zw := zw.on b
  replace BW := Below.step BW b
  clear b
  obtain ⟨zwc0, zwc1, zwc2, zwf0, zwf1, zwf2, zwl⟩ := zw.cells
  obtain ⟨zac0, zac1, zac2, zaf0, zaf1, zaf2, zal⟩ := za.cells
  go_wp2_with fail
  refine (val64 u hu hT HV.out).mono ?_
  rintro en w5 ⟨V_rv, v_rv, rfl, rv, b⟩
  clear zwc0 zwc1 zwc2 zwf0 zwf1 zwf2 zwl zac0 zac1 zac2 zaf0 zaf1 zaf2 zal
  replace hT := hT.on b
  replace hF := hF.on b
  replace za := za.on b
  replace h0 := h0.on b
  replace zw := zw.on b
  replace BW := Below.step BW b
  clear b
  have lv := res_n_le rv (k := 128) hlv
  obtain ⟨zwc0, zwc1, zwc2, zwf0, zwf1, zwf2, zwl⟩ := zw.cells
  obtain ⟨zac0, zac1, zac2, zaf0, zaf1, zaf2, zal⟩ := za.cells
  go_upto_region 12 with fail
  clear zwc0 zwc1 zwc2 zwf0 zwf1 zwf2 zwl zac0 zac1 zac2 zaf0 zaf1 zaf2 zal
  obtain ⟨w6, e_w6⟩ : ∃ w', w5.alloc (dob vn V_rv v_rv v_rv ve 25) = w' := ⟨_, rfl⟩
  have b : Below w5.heap.size w5 w6 := e_w6 ▸ below_lit _ _
  have hs_w6 : w6.heap.size = w5.heap.size + 1 := e_w6 ▸ size_lit w5 _ rfl
  have zv : DB w6 w5.heap.size 25 vn V_rv v_rv v_rv ve := e_w6 ▸ DB.made w5 rfl 25 vn V_rv v_rv v_rv ve
  rw [e_w6]
  clear e_w6
  replace hT := hT.on b
  replace hF := hF.on b
  replace za := za.on b
  replace h0 := h0.on b
  replace zw := zw.on b
  replace rv := rv.on b
  replace BW := Below.step BW b
  clear b
  clear hs_w6
  have ix0 := ndx0
  have ix1 := ndx1
  go_wp2_with fail
  refine wp_loop_rounds 3 ?_
  rw [rounds_succ]
  go_wp2_with fail
  refine (of_16 _ hF).mono ?_
  rintro en w7 ⟨rfl, b⟩
  replace hT := hT.on b
  replace hF := hF.on b
  replace za := za.on b
  replace h0 := h0.on b
  replace zw := zw.on b
  replace rv := rv.on b
  replace zv := zv.on b
  replace BW := Below.step BW b
  clear b
  obtain ⟨zac0, zac1, zac2, zaf0, zaf1, zaf2, zal⟩ := za.cells
  obtain ⟨zvc0, zvc1, zvc2, zvf0, zvf1, zvf2, zvl⟩ := zv.cells
  go_upto_region 16 with fail
  clear zac0 zac1 zac2 zaf0 zaf1 zaf2 zal zvc0 zvc1 zvc2 zvf0 zvf1 zvf2 zvl
  obtain ⟨w8, e_w8⟩ : ∃ w', w7.alloc (.cells #[.int .i64 16, .int .i64 11, .int .i64 5] 28) = w' := ⟨_, rfl⟩
  have b : Below w7.heap.size w7 w8 := e_w8 ▸ below_lit _ _
  have hs_w8 : w8.heap.size = w7.heap.size + 1 := e_w8 ▸ size_lit w7 _ rfl
  have zg : FB w8 w7.heap.size 28 16 11 5 := e_w8 ▸ Box.made_at w7 rfl 28 (notU_int _) (notU_int _) (notU_int _)
  rw [e_w8]
  clear e_w8
  replace hT := hT.on b
  replace hF := hF.on b
  replace za := za.on b
  replace h0 := h0.on b
  replace zw := zw.on b
  replace rv := rv.on b
  replace zv := zv.on b
  replace BW := Below.step BW b
  clear b
  clear hs_w8
  obtain ⟨zgc0, zgc1, zgc2, zgf0, zgf1, zgf2, zgl⟩ := zg.cells
  obtain ⟨zac0, zac1, zac2, zaf0, zaf1, zaf2, zal⟩ := za.cells
  go_wp2_with fail
  refine (to16 h0 (by omega) hT _ false HB16.out).mono ?_
  rintro en w9 ⟨rfl, b⟩
  clear zgc0 zgc1 zgc2 zgf0 zgf1 zgf2 zgl zac0 zac1 zac2 zaf0 zaf1 zaf2 zal
  replace hT := hT.on b
  replace hF := hF.on b
  replace za := za.on b
  replace h0 := h0.on b
  replace zw := zw.on b
  replace rv := rv.on b
  replace zv := zv.on b
  replace zg := zg.on b
  replace BW := Below.step BW b
  clear b
  go_upto_region 17 with fail
  replace hT := hT.on ((Below.refl _ _).drew : Below w9.heap.size w9 w9.drew)
  replace hF := hF.on ((Below.refl _ _).drew : Below w9.heap.size w9 w9.drew)
  replace za := za.on ((Below.refl _ _).drew : Below w9.heap.size w9 w9.drew)
  replace h0 := h0.on ((Below.refl _ _).drew : Below w9.heap.size w9 w9.drew)
  replace zw := zw.on ((Below.refl _ _).drew : Below w9.heap.size w9 w9.drew)
  replace rv := rv.on ((Below.refl _ _).drew : Below w9.heap.size w9 w9.drew)
  replace zv := zv.on ((Below.refl _ _).drew : Below w9.heap.size w9 w9.drew)
  replace zg := zg.on ((Below.refl _ _).drew : Below w9.heap.size w9 w9.drew)
  replace BW := Lib.hid (Below.step BW ((Below.refl _ _).drew : Below w9.heap.size w9 w9.drew))
  go_region_held3 (fun w' => w'.cell? ⟨w7.heap.size, 0, none⟩ = some (.int .i64 16) ∧ w'.cell? ⟨w7.heap.size, 1, none⟩ = some (.int .i64 11) ∧ w'.cell? ⟨w7.heap.size, 2, none⟩ = some (.int .i64 5) ∧ w'.cell? ⟨w5.heap.size, 0, none⟩ = some (.bool vn) ∧ w'.cell? ⟨w5.heap.size, 1, none⟩ = some (.slice V_rv v_rv v_rv) ∧ w'.cell? ⟨w5.heap.size, 2, none⟩ = some (.int .i64 ve) ∧ w'.cell? ⟨w2.heap.size, 0, none⟩ = some (.int .i64 64) ∧ w'.cell? ⟨w2.heap.size, 1, none⟩ = some (.int .i64 53) ∧ w'.cell? ⟨w2.heap.size, 2, none⟩ = some (.int .i64 11))
    ((exact ⟨zg.cells.1, zg.cells.2.1, zg.cells.2.2.1, zv.cells.1, zv.cells.2.1, zv.cells.2.2.1, zw.cells.1, zw.cells.2.1, zw.cells.2.2.1⟩))
    (first
      | (go_at_call 20
         (with_reducible refine (neg64 u hu s HN.out _).mono ?_)
         rintro en w10 ⟨rfl, b⟩
         replace hT := hT.on b
         replace hF := hF.on b
         replace za := za.on b
         replace h0 := h0.on b
         replace zw := zw.on b
         replace rv := rv.on b
         replace zv := zv.on b
         replace zg := zg.on b
         replace BW := Lib.hid (Below.step BW.out b)
         clear b)
      | (go_at_call 19
         (with_reducible refine (to16 (rv.arg (by omega)) (by omega) hT _ s HC16.out).mono ?_)
         rintro en w11 ⟨rfl, b⟩
         replace hT := hT.on b
         replace hF := hF.on b
         replace za := za.on b
         replace h0 := h0.on b
         replace zw := zw.on b
         replace rv := rv.on b
         replace zv := zv.on b
         replace zg := zg.on b
         replace BW := Lib.hid (Below.step BW.out b)
         clear b))
  replace BW := BW.out
  go_wp2_with fail
  clear zg
  rw [rounds_succ]
  go_wp2_with fail
  refine (of_32 _ hF).mono ?_
  rintro en w12 ⟨rfl, b⟩
  replace hT := hT.on b
  replace hF := hF.on b
  replace za := za.on b
  replace h0 := h0.on b
  replace zw := zw.on b
  replace rv := rv.on b
  replace zv := zv.on b
  replace BW := Below.step BW b
  clear b
  obtain ⟨zac0, zac1, zac2, zaf0, zaf1, zaf2, zal⟩ := za.cells
  obtain ⟨zvc0, zvc1, zvc2, zvf0, zvf1, zvf2, zvl⟩ := zv.cells
  go_upto_region 16 with fail
  clear zac0 zac1 zac2 zaf0 zaf1 zaf2 zal zvc0 zvc1 zvc2 zvf0 zvf1 zvf2 zvl
  obtain ⟨w13, e_w13⟩ : ∃ w', w12.alloc (.cells #[.int .i64 32, .int .i64 24, .int .i64 8] 28) = w' := ⟨_, rfl⟩
  have b : Below w12.heap.size w12 w13 := e_w13 ▸ below_lit _ _
  have hs_w13 : w13.heap.size = w12.heap.size + 1 := e_w13 ▸ size_lit w12 _ rfl
  have zg : FB w13 w12.heap.size 28 32 24 8 := e_w13 ▸ Box.made_at w12 rfl 28 (notU_int _) (notU_int _) (notU_int _)
  rw [e_w13]
  clear e_w13
  replace hT := hT.on b
  replace hF := hF.on b
  replace za := za.on b
  replace h0 := h0.on b
  replace zw := zw.on b
  replace rv := rv.on b
  replace zv := zv.on b
  replace BW := Below.step BW b
  clear b
  clear hs_w13
  obtain ⟨zgc0, zgc1, zgc2, zgf0, zgf1, zgf2, zgl⟩ := zg.cells
  obtain ⟨zac0, zac1, zac2, zaf0, zaf1, zaf2, zal⟩ := za.cells
  go_wp2_with fail
  refine (to32 h0 (by omega) hT _ false HB32.out).mono ?_
  rintro en w14 ⟨rfl, b⟩
  clear zgc0 zgc1 zgc2 zgf0 zgf1 zgf2 zgl zac0 zac1 zac2 zaf0 zaf1 zaf2 zal
  replace hT := hT.on b
  replace hF := hF.on b
  replace za := za.on b
  replace h0 := h0.on b
  replace zw := zw.on b
  replace rv := rv.on b
  replace zv := zv.on b
  replace zg := zg.on b
  replace BW := Below.step BW b
  clear b
  go_upto_region 17 with fail
  replace hT := hT.on ((Below.refl _ _).drew : Below w14.heap.size w14 w14.drew)
  replace hF := hF.on ((Below.refl _ _).drew : Below w14.heap.size w14 w14.drew)
  replace za := za.on ((Below.refl _ _).drew : Below w14.heap.size w14 w14.drew)
  replace h0 := h0.on ((Below.refl _ _).drew : Below w14.heap.size w14 w14.drew)
  replace zw := zw.on ((Below.refl _ _).drew : Below w14.heap.size w14 w14.drew)
  replace rv := rv.on ((Below.refl _ _).drew : Below w14.heap.size w14 w14.drew)
  replace zv := zv.on ((Below.refl _ _).drew : Below w14.heap.size w14 w14.drew)
  replace zg := zg.on ((Below.refl _ _).drew : Below w14.heap.size w14 w14.drew)
  replace BW := Lib.hid (Below.step BW ((Below.refl _ _).drew : Below w14.heap.size w14 w14.drew))
  go_region_held3 (fun w' => w'.cell? ⟨w12.heap.size, 0, none⟩ = some (.int .i64 32) ∧ w'.cell? ⟨w12.heap.size, 1, none⟩ = some (.int .i64 24) ∧ w'.cell? ⟨w12.heap.size, 2, none⟩ = some (.int .i64 8) ∧ w'.cell? ⟨w5.heap.size, 0, none⟩ = some (.bool vn) ∧ w'.cell? ⟨w5.heap.size, 1, none⟩ = some (.slice V_rv v_rv v_rv) ∧ w'.cell? ⟨w5.heap.size, 2, none⟩ = some (.int .i64 ve) ∧ w'.cell? ⟨w2.heap.size, 0, none⟩ = some (.int .i64 64) ∧ w'.cell? ⟨w2.heap.size, 1, none⟩ = some (.int .i64 53) ∧ w'.cell? ⟨w2.heap.size, 2, none⟩ = some (.int .i64 11))
    ((exact ⟨zg.cells.1, zg.cells.2.1, zg.cells.2.2.1, zv.cells.1, zv.cells.2.1, zv.cells.2.2.1, zw.cells.1, zw.cells.2.1, zw.cells.2.2.1⟩))
    (first
      | (go_at_call 20
         (with_reducible refine (neg64 u hu s HN.out _).mono ?_)
         rintro en w15 ⟨rfl, b⟩
         replace hT := hT.on b
         replace hF := hF.on b
         replace za := za.on b
         replace h0 := h0.on b
         replace zw := zw.on b
         replace rv := rv.on b
         replace zv := zv.on b
         replace zg := zg.on b
         replace BW := Lib.hid (Below.step BW.out b)
         clear b)
      | (go_at_call 19
         (with_reducible refine (to32 (rv.arg (by omega)) (by omega) hT _ s HC32.out).mono ?_)
         rintro en w16 ⟨rfl, b⟩
         replace hT := hT.on b
         replace hF := hF.on b
         replace za := za.on b
         replace h0 := h0.on b
         replace zw := zw.on b
         replace rv := rv.on b
         replace zv := zv.on b
         replace zg := zg.on b
         replace BW := Lib.hid (Below.step BW.out b)
         clear b))
  replace BW := BW.out
  go_wp2_with fail
  clear zg
  rw [rounds_succ]
  go_wp2_with fail
  go_ret
  exact ⟨rfl, BW⟩
set_option maxRecDepth 100000 in
theorem nested_over_3 {n0 : Bool} {A0 : Option Addr} {l0 c0 x0 : Nat} {e0 : Int} {w : World} (h0 : Arg w A0 l0 c0 x0) (hT : Tab w) (hF : Frm w) (gl : decide (40 < (l0 : Int)) = false) (g1 : decide (e0 < -1200) = false) (g2 : decide (1100 < e0) = false) {u : Nat} (HA : Hid (roundS 53 4503599627370496 2047 9223372036854775808 (-1074) 3 ⟨n0, x0, e0⟩ false = (u, 5, 0))) : Calls Tryd.prog 8 #[.int .i64 3, .agg #[.bool n0, .slice A0 l0 c0, .int .i64 e0]] w fun e w' => e = .returned (.bool true) ∧ Below w.heap.size w w' := by
  have gl' := of_decide_eq_false gl
  go_enter Tryd.func8, Tryd.ntmps8
  go_wp2_with fail
  obtain ⟨V, hV, za, BW, sW⟩ := frame1 w 25 n0 A0 l0 c0 e0
  rw [hV]
  clear hV sW
  replace hT := hT.on BW
  replace hF := hF.on BW
  replace h0 := h0.on BW
  refine (awake4_any hT hF).mono ?_
  rintro en w1 ⟨rfl, b⟩
  replace hT := hT.on b
  replace hF := hF.on b
  replace za := za.on b
  replace h0 := h0.on b
  replace BW := Below.step BW b
  clear b
  go_wp2_with fail
  refine (of_64 _ hF).mono ?_
  rintro en w2 ⟨rfl, b⟩
  replace hT := hT.on b
  replace hF := hF.on b
  replace za := za.on b
  replace h0 := h0.on b
  replace BW := Below.step BW b
  clear b
  obtain ⟨zac0, zac1, zac2, zaf0, zaf1, zaf2, zal⟩ := za.cells
  go_upto_region 4 with fail
  clear zac0 zac1 zac2 zaf0 zaf1 zaf2 zal
  obtain ⟨w3, e_w3⟩ : ∃ w', w2.alloc (.cells #[.int .i64 64, .int .i64 53, .int .i64 11] 28) = w' := ⟨_, rfl⟩
  have b : Below w2.heap.size w2 w3 := e_w3 ▸ below_lit _ _
  have hs_w3 : w3.heap.size = w2.heap.size + 1 := e_w3 ▸ size_lit w2 _ rfl
  have zw : FB w3 w2.heap.size 28 64 53 11 := e_w3 ▸ Box.made_at w2 rfl 28 (notU_int _) (notU_int _) (notU_int _)
  rw [e_w3]
  clear e_w3
  replace hT := hT.on b
  replace hF := hF.on b
  replace za := za.on b
  replace h0 := h0.on b
  replace BW := Below.step BW b
  clear b
  clear hs_w3
  obtain ⟨zwc0, zwc1, zwc2, zwf0, zwf1, zwf2, zwl⟩ := zw.cells
  obtain ⟨zac0, zac1, zac2, zaf0, zaf1, zaf2, zal⟩ := za.cells
  go_wp2_with fail
  refine (to64 h0 (by omega) hT _ false HA.out).mono ?_
  rintro en w4 ⟨rfl, b⟩
  clear zwc0 zwc1 zwc2 zwf0 zwf1 zwf2 zwl zac0 zac1 zac2 zaf0 zaf1 zaf2 zal
  replace hT := hT.on b
  replace hF := hF.on b
  replace za := za.on b
  replace h0 := h0.on b
  replace zw := zw.on b
  replace BW := Below.step BW b
  clear b
  obtain ⟨zwc0, zwc1, zwc2, zwf0, zwf1, zwf2, zwl⟩ := zw.cells
  obtain ⟨zac0, zac1, zac2, zaf0, zaf1, zaf2, zal⟩ := za.cells
  go_wp2_with fail
  go_ret
  exact ⟨rfl, BW⟩
set_option maxHeartbeats 4000000 in
set_option maxRecDepth 100000 in
theorem nested_main_3 {n0 : Bool} {A0 : Option Addr} {l0 c0 x0 : Nat} {e0 : Int} {w : World} (h0 : Arg w A0 l0 c0 x0) (hT : Tab w) (hF : Frm w) (gl : decide (40 < (l0 : Int)) = false) (g1 : decide (e0 < -1200) = false) (g2 : decide (1100 < e0) = false) {u p q : Nat} {fl f1 f2 f3 f4 : Int} (HA : Hid (roundS 53 4503599627370496 2047 9223372036854775808 (-1074) 3 ⟨n0, x0, e0⟩ false = (u, fl, 0))) (q4 : bits BinOp.and IntKind.i64 fl 4 = 0) (hu : u < 18446744073709551616)
    {vn s : Bool} {vx : Nat} {ve : Int} (HV : Hid (valS 4503599627370496 2047 9223372036854775808 (-1074) u = (⟨vn, vx, ve⟩, 0))) (hlv : blen vx ≤ 4096) (HN : Hid (decide (u / 9223372036854775808 % 2 = 1) = s))
    (HB16 : Hid (roundS 11 1024 31 32768 (-24) 3 ⟨n0, x0, e0⟩ false = (p, f1, 0))) (HC16 : Hid (roundS 11 1024 31 32768 (-24) 3 ⟨vn, vx, ve⟩ s = (p, f2, 0)))
    (HB32 : Hid (roundS 24 8388608 255 2147483648 (-149) 3 ⟨n0, x0, e0⟩ false = (q, f3, 0))) (HC32 : Hid (roundS 24 8388608 255 2147483648 (-149) 3 ⟨vn, vx, ve⟩ s = (q, f4, 0))) : Calls Tryd.prog 8 #[.int .i64 3, .agg #[.bool n0, .slice A0 l0 c0, .int .i64 e0]] w fun e w' => e = .returned (.bool true) ∧ Below w.heap.size w w' := by
  have gl' := of_decide_eq_false gl
  go_enter Tryd.func8, Tryd.ntmps8
  go_wp2_with fail
  obtain ⟨V, hV, za, BW, sW⟩ := frame1 w 25 n0 A0 l0 c0 e0
  rw [hV]
  clear hV sW
  replace hT := hT.on BW
  replace hF := hF.on BW
  replace h0 := h0.on BW
  refine (awake4_any hT hF).mono ?_
  rintro en w1 ⟨rfl, b⟩
  replace hT := hT.on b
  replace hF := hF.on b
  replace za := za.on b
  replace h0 := h0.on b
  replace BW := Below.step BW b
  clear b
  go_wp2_with fail
  refine (of_64 _ hF).mono ?_
  rintro en w2 ⟨rfl, b⟩
  replace hT := hT.on b
  replace hF := hF.on b
  replace za := za.on b
  replace h0 := h0.on b
  replace BW := Below.step BW b
  clear b
  obtain ⟨zac0, zac1, zac2, zaf0, zaf1, zaf2, zal⟩ := za.cells
  go_upto_region 4 with fail
  clear zac0 zac1 zac2 zaf0 zaf1 zaf2 zal
  obtain ⟨w3, e_w3⟩ : ∃ w', w2.alloc (.cells #[.int .i64 64, .int .i64 53, .int .i64 11] 28) = w' := ⟨_, rfl⟩
  have b : Below w2.heap.size w2 w3 := e_w3 ▸ below_lit _ _
  have hs_w3 : w3.heap.size = w2.heap.size + 1 := e_w3 ▸ size_lit w2 _ rfl
  have zw : FB w3 w2.heap.size 28 64 53 11 := e_w3 ▸ Box.made_at w2 rfl 28 (notU_int _) (notU_int _) (notU_int _)
  rw [e_w3]
  clear e_w3
  replace hT := hT.on b
  replace hF := hF.on b
  replace za := za.on b
  replace h0 := h0.on b
  replace BW := Below.step BW b
  clear b
  clear hs_w3
  obtain ⟨zwc0, zwc1, zwc2, zwf0, zwf1, zwf2, zwl⟩ := zw.cells
  obtain ⟨zac0, zac1, zac2, zaf0, zaf1, zaf2, zal⟩ := za.cells
  go_wp2_with fail
  refine (to64 h0 (by omega) hT _ false HA.out).mono ?_
  rintro en w4 ⟨rfl, b⟩
  clear zwc0 zwc1 zwc2 zwf0 zwf1 zwf2 zwl zac0 zac1 zac2 zaf0 zaf1 zaf2 zal
  replace hT := hT.on b
  replace hF := hF.on b
  replace za := za.on b
  replace h0 := h0.on b
  replace zw := zw.on b
  replace BW := Below.step BW b
  clear b
  obtain ⟨zwc0, zwc1, zwc2, zwf0, zwf1, zwf2, zwl⟩ := zw.cells
  obtain ⟨zac0, zac1, zac2, zaf0, zaf1, zaf2, zal⟩ := za.cells
  go_wp2_with fail
  refine (val64 u hu hT HV.out).mono ?_
  rintro en w5 ⟨V_rv, v_rv, rfl, rv, b⟩
  clear zwc0 zwc1 zwc2 zwf0 zwf1 zwf2 zwl zac0 zac1 zac2 zaf0 zaf1 zaf2 zal
  replace hT := hT.on b
  replace hF := hF.on b
  replace za := za.on b
  replace h0 := h0.on b
  replace zw := zw.on b
  replace BW := Below.step BW b
  clear b
  have lv := res_n_le rv (k := 128) hlv
  obtain ⟨zwc0, zwc1, zwc2, zwf0, zwf1, zwf2, zwl⟩ := zw.cells
  obtain ⟨zac0, zac1, zac2, zaf0, zaf1, zaf2, zal⟩ := za.cells
  go_upto_region 12 with fail
  clear zwc0 zwc1 zwc2 zwf0 zwf1 zwf2 zwl zac0 zac1 zac2 zaf0 zaf1 zaf2 zal
  obtain ⟨w6, e_w6⟩ : ∃ w', w5.alloc (dob vn V_rv v_rv v_rv ve 25) = w' := ⟨_, rfl⟩
  have b : Below w5.heap.size w5 w6 := e_w6 ▸ below_lit _ _
  have hs_w6 : w6.heap.size = w5.heap.size + 1 := e_w6 ▸ size_lit w5 _ rfl
  have zv : DB w6 w5.heap.size 25 vn V_rv v_rv v_rv ve := e_w6 ▸ DB.made w5 rfl 25 vn V_rv v_rv v_rv ve
  rw [e_w6]
  clear e_w6
  replace hT := hT.on b
  replace hF := hF.on b
  replace za := za.on b
  replace h0 := h0.on b
  replace zw := zw.on b
  replace rv := rv.on b
  replace BW := Below.step BW b
  clear b
  clear hs_w6
  have ix0 := ndx0
  have ix1 := ndx1
  go_wp2_with fail
  refine wp_loop_rounds 3 ?_
  rw [rounds_succ]
  go_wp2_with fail
  refine (of_16 _ hF).mono ?_
  rintro en w7 ⟨rfl, b⟩
  replace hT := hT.on b
  replace hF := hF.on b
  replace za := za.on b
  replace h0 := h0.on b
  replace zw := zw.on b
  replace rv := rv.on b
  replace zv := zv.on b
  replace BW := Below.step BW b
  clear b
  obtain ⟨zac0, zac1, zac2, zaf0, zaf1, zaf2, zal⟩ := za.cells
  obtain ⟨zvc0, zvc1, zvc2, zvf0, zvf1, zvf2, zvl⟩ := zv.cells
  go_upto_region 16 with fail
  clear zac0 zac1 zac2 zaf0 zaf1 zaf2 zal zvc0 zvc1 zvc2 zvf0 zvf1 zvf2 zvl
  obtain ⟨w8, e_w8⟩ : ∃ w', w7.alloc (.cells #[.int .i64 16, .int .i64 11, .int .i64 5] 28) = w' := ⟨_, rfl⟩
  have b : Below w7.heap.size w7 w8 := e_w8 ▸ below_lit _ _
  have hs_w8 : w8.heap.size = w7.heap.size + 1 := e_w8 ▸ size_lit w7 _ rfl
  have zg : FB w8 w7.heap.size 28 16 11 5 := e_w8 ▸ Box.made_at w7 rfl 28 (notU_int _) (notU_int _) (notU_int _)
  rw [e_w8]
  clear e_w8
  replace hT := hT.on b
  replace hF := hF.on b
  replace za := za.on b
  replace h0 := h0.on b
  replace zw := zw.on b
  replace rv := rv.on b
  replace zv := zv.on b
  replace BW := Below.step BW b
  clear b
  clear hs_w8
  obtain ⟨zgc0, zgc1, zgc2, zgf0, zgf1, zgf2, zgl⟩ := zg.cells
  obtain ⟨zac0, zac1, zac2, zaf0, zaf1, zaf2, zal⟩ := za.cells
  go_wp2_with fail
  refine (to16 h0 (by omega) hT _ false HB16.out).mono ?_
  rintro en w9 ⟨rfl, b⟩
  clear zgc0 zgc1 zgc2 zgf0 zgf1 zgf2 zgl zac0 zac1 zac2 zaf0 zaf1 zaf2 zal
  replace hT := hT.on b
  replace hF := hF.on b
  replace za := za.on b
  replace h0 := h0.on b
  replace zw := zw.on b
  replace rv := rv.on b
  replace zv := zv.on b
  replace zg := zg.on b
  replace BW := Below.step BW b
  clear b
  go_upto_region 17 with fail
  replace hT := hT.on ((Below.refl _ _).drew : Below w9.heap.size w9 w9.drew)
  replace hF := hF.on ((Below.refl _ _).drew : Below w9.heap.size w9 w9.drew)
  replace za := za.on ((Below.refl _ _).drew : Below w9.heap.size w9 w9.drew)
  replace h0 := h0.on ((Below.refl _ _).drew : Below w9.heap.size w9 w9.drew)
  replace zw := zw.on ((Below.refl _ _).drew : Below w9.heap.size w9 w9.drew)
  replace rv := rv.on ((Below.refl _ _).drew : Below w9.heap.size w9 w9.drew)
  replace zv := zv.on ((Below.refl _ _).drew : Below w9.heap.size w9 w9.drew)
  replace zg := zg.on ((Below.refl _ _).drew : Below w9.heap.size w9 w9.drew)
  replace BW := Lib.hid (Below.step BW ((Below.refl _ _).drew : Below w9.heap.size w9 w9.drew))
  go_region_held3 (fun w' => w'.cell? ⟨w7.heap.size, 0, none⟩ = some (.int .i64 16) ∧ w'.cell? ⟨w7.heap.size, 1, none⟩ = some (.int .i64 11) ∧ w'.cell? ⟨w7.heap.size, 2, none⟩ = some (.int .i64 5) ∧ w'.cell? ⟨w5.heap.size, 0, none⟩ = some (.bool vn) ∧ w'.cell? ⟨w5.heap.size, 1, none⟩ = some (.slice V_rv v_rv v_rv) ∧ w'.cell? ⟨w5.heap.size, 2, none⟩ = some (.int .i64 ve) ∧ w'.cell? ⟨w2.heap.size, 0, none⟩ = some (.int .i64 64) ∧ w'.cell? ⟨w2.heap.size, 1, none⟩ = some (.int .i64 53) ∧ w'.cell? ⟨w2.heap.size, 2, none⟩ = some (.int .i64 11))
    ((exact ⟨zg.cells.1, zg.cells.2.1, zg.cells.2.2.1, zv.cells.1, zv.cells.2.1, zv.cells.2.2.1, zw.cells.1, zw.cells.2.1, zw.cells.2.2.1⟩))
    (first
      | (go_at_call 20
         (with_reducible refine (neg64 u hu s HN.out _).mono ?_)
         rintro en w10 ⟨rfl, b⟩
         replace hT := hT.on b
         replace hF := hF.on b
         replace za := za.on b
         replace h0 := h0.on b
         replace zw := zw.on b
         replace rv := rv.on b
         replace zv := zv.on b
         replace zg := zg.on b
         replace BW := Lib.hid (Below.step BW.out b)
         clear b)
      | (go_at_call 19
         (with_reducible refine (to16 (rv.arg (by omega)) (by omega) hT _ s HC16.out).mono ?_)
         rintro en w11 ⟨rfl, b⟩
         replace hT := hT.on b
         replace hF := hF.on b
         replace za := za.on b
         replace h0 := h0.on b
         replace zw := zw.on b
         replace rv := rv.on b
         replace zv := zv.on b
         replace zg := zg.on b
         replace BW := Lib.hid (Below.step BW.out b)
         clear b))
  replace BW := BW.out
  go_wp2_with fail
  clear zg
  rw [rounds_succ]
  go_wp2_with fail
  refine (of_32 _ hF).mono ?_
  rintro en w12 ⟨rfl, b⟩
  replace hT := hT.on b
  replace hF := hF.on b
  replace za := za.on b
  replace h0 := h0.on b
  replace zw := zw.on b
  replace rv := rv.on b
  replace zv := zv.on b
  replace BW := Below.step BW b
  clear b
  obtain ⟨zac0, zac1, zac2, zaf0, zaf1, zaf2, zal⟩ := za.cells
  obtain ⟨zvc0, zvc1, zvc2, zvf0, zvf1, zvf2, zvl⟩ := zv.cells
  go_upto_region 16 with fail
  clear zac0 zac1 zac2 zaf0 zaf1 zaf2 zal zvc0 zvc1 zvc2 zvf0 zvf1 zvf2 zvl
  obtain ⟨w13, e_w13⟩ : ∃ w', w12.alloc (.cells #[.int .i64 32, .int .i64 24, .int .i64 8] 28) = w' := ⟨_, rfl⟩
  have b : Below w12.heap.size w12 w13 := e_w13 ▸ below_lit _ _
  have hs_w13 : w13.heap.size = w12.heap.size + 1 := e_w13 ▸ size_lit w12 _ rfl
  have zg : FB w13 w12.heap.size 28 32 24 8 := e_w13 ▸ Box.made_at w12 rfl 28 (notU_int _) (notU_int _) (notU_int _)
  rw [e_w13]
  clear e_w13
  replace hT := hT.on b
  replace hF := hF.on b
  replace za := za.on b
  replace h0 := h0.on b
  replace zw := zw.on b
  replace rv := rv.on b
  replace zv := zv.on b
  replace BW := Below.step BW b
  clear b
  clear hs_w13
  obtain ⟨zgc0, zgc1, zgc2, zgf0, zgf1, zgf2, zgl⟩ := zg.cells
  obtain ⟨zac0, zac1, zac2, zaf0, zaf1, zaf2, zal⟩ := za.cells
  go_wp2_with fail
  refine (to32 h0 (by omega) hT _ false HB32.out).mono ?_
  rintro en w14 ⟨rfl, b⟩
  clear zgc0 zgc1 zgc2 zgf0 zgf1 zgf2 zgl zac0 zac1 zac2 zaf0 zaf1 zaf2 zal
  replace hT := hT.on b
  replace hF := hF.on b
  replace za := za.on b
  replace h0 := h0.on b
  replace zw := zw.on b
  replace rv := rv.on b
  replace zv := zv.on b
  replace zg := zg.on b
  replace BW := Below.step BW b
  clear b
  go_upto_region 17 with fail
  replace hT := hT.on ((Below.refl _ _).drew : Below w14.heap.size w14 w14.drew)
  replace hF := hF.on ((Below.refl _ _).drew : Below w14.heap.size w14 w14.drew)
  replace za := za.on ((Below.refl _ _).drew : Below w14.heap.size w14 w14.drew)
  replace h0 := h0.on ((Below.refl _ _).drew : Below w14.heap.size w14 w14.drew)
  replace zw := zw.on ((Below.refl _ _).drew : Below w14.heap.size w14 w14.drew)
  replace rv := rv.on ((Below.refl _ _).drew : Below w14.heap.size w14 w14.drew)
  replace zv := zv.on ((Below.refl _ _).drew : Below w14.heap.size w14 w14.drew)
  replace zg := zg.on ((Below.refl _ _).drew : Below w14.heap.size w14 w14.drew)
  replace BW := Lib.hid (Below.step BW ((Below.refl _ _).drew : Below w14.heap.size w14 w14.drew))
  go_region_held3 (fun w' => w'.cell? ⟨w12.heap.size, 0, none⟩ = some (.int .i64 32) ∧ w'.cell? ⟨w12.heap.size, 1, none⟩ = some (.int .i64 24) ∧ w'.cell? ⟨w12.heap.size, 2, none⟩ = some (.int .i64 8) ∧ w'.cell? ⟨w5.heap.size, 0, none⟩ = some (.bool vn) ∧ w'.cell? ⟨w5.heap.size, 1, none⟩ = some (.slice V_rv v_rv v_rv) ∧ w'.cell? ⟨w5.heap.size, 2, none⟩ = some (.int .i64 ve) ∧ w'.cell? ⟨w2.heap.size, 0, none⟩ = some (.int .i64 64) ∧ w'.cell? ⟨w2.heap.size, 1, none⟩ = some (.int .i64 53) ∧ w'.cell? ⟨w2.heap.size, 2, none⟩ = some (.int .i64 11))
    ((exact ⟨zg.cells.1, zg.cells.2.1, zg.cells.2.2.1, zv.cells.1, zv.cells.2.1, zv.cells.2.2.1, zw.cells.1, zw.cells.2.1, zw.cells.2.2.1⟩))
    (first
      | (go_at_call 20
         (with_reducible refine (neg64 u hu s HN.out _).mono ?_)
         rintro en w15 ⟨rfl, b⟩
         replace hT := hT.on b
         replace hF := hF.on b
         replace za := za.on b
         replace h0 := h0.on b
         replace zw := zw.on b
         replace rv := rv.on b
         replace zv := zv.on b
         replace zg := zg.on b
         replace BW := Lib.hid (Below.step BW.out b)
         clear b)
      | (go_at_call 19
         (with_reducible refine (to32 (rv.arg (by omega)) (by omega) hT _ s HC32.out).mono ?_)
         rintro en w16 ⟨rfl, b⟩
         replace hT := hT.on b
         replace hF := hF.on b
         replace za := za.on b
         replace h0 := h0.on b
         replace zw := zw.on b
         replace rv := rv.on b
         replace zv := zv.on b
         replace zg := zg.on b
         replace BW := Lib.hid (Below.step BW.out b)
         clear b))
  replace BW := BW.out
  go_wp2_with fail
  clear zg
  rw [rounds_succ]
  go_wp2_with fail
  go_ret
  exact ⟨rfl, BW⟩
theorem round_flags (P M E H : Nat) (low : Int) (mode : Int) (a : D) (ng : Bool) : (roundS P M E H low mode a ng).2.1 = 0 ∨ (roundS P M E H low mode a ng).2.1 = 1 ∨ (roundS P M E H low mode a ng).2.1 = 3 ∨ (roundS P M E H low mode a ng).2.1 = 5 := by
  unfold roundS
  split
  · exact .inl rfl
  · split
    · split
      · exact .inl rfl
      · split
        · show flgS _ _ _ _ = 0 ∨ flgS _ _ _ _ = 1 ∨ flgS _ _ _ _ = 3 ∨ flgS _ _ _ _ = 5
          unfold flgS
          split
          · exact .inl rfl
          · split
            · exact .inr (.inr (.inl rfl))
            · exact .inr (.inl rfl)
        · exact .inr (.inr (.inr rfl))
    · exact .inl rfl
theorem nested_math {mode : Int} (hmode : mode = 1 ∨ mode = 2 ∨ mode = 3) {a : D} (hm : mayR a = true) (he : -40000 ≤ a.e) (hfl : (roundS 53 4503599627370496 2047 9223372036854775808 (-1074) mode a false).2.1 ≠ 5) :
    ∃ (u p q : Nat) (fl f1 f2 f3 f4 : Int) (vn s : Bool) (vx : Nat) (ve : Int), roundS 53 4503599627370496 2047 9223372036854775808 (-1074) mode a false = (u, fl, 0) ∧ bits BinOp.and IntKind.i64 fl 4 = 0 ∧ u < 18446744073709551616 ∧ valS 4503599627370496 2047 9223372036854775808 (-1074) u = (⟨vn, vx, ve⟩, 0) ∧ blen vx ≤ 4096 ∧ decide (u / 9223372036854775808 % 2 = 1) = s ∧
      roundS 11 1024 31 32768 (-24) mode a false = (p, f1, 0) ∧ roundS 11 1024 31 32768 (-24) mode ⟨vn, vx, ve⟩ s = (p, f2, 0) ∧ roundS 24 8388608 255 2147483648 (-149) mode a false = (q, f3, 0) ∧ roundS 24 8388608 255 2147483648 (-149) mode ⟨vn, vx, ve⟩ s = (q, f4, 0) := by
  obtain ⟨s, k, hk, e1, e2, e3, e4, e5⟩ := round_nested f16 f64 (by omega) (by omega) hmode hm he hfl
  obtain ⟨s', k', hk', e1', _, e3', e4', e5'⟩ := round_nested f32 f64 (by omega) (by omega) hmode hm he hfl
  have hME := ME_lt f64
  obtain ⟨p1, p2, p3, p4, p5, p6⟩ := sgn_parts f64 s k (by omega)
  obtain ⟨p1', p2', p3', p4', p5', p6'⟩ := sgn_parts f64 s' k' (by omega)
  obtain ⟨⟨u, fl, er⟩, hu⟩ : ∃ r, roundS 53 4503599627370496 2047 9223372036854775808 (-1074) mode a false = r := ⟨_, rfl⟩
  have hf := round_flags 53 4503599627370496 2047 9223372036854775808 (-1074) mode a false
  rw [hu] at e1 e1' e2 hfl hf
  simp only at e1 e1' e2 hfl hf
  rw [← e1] at p3 p4
  rw [← e1'] at p3'
  obtain rfl : s = s' := p3.symm.trans p3'
  obtain rfl : k = k' := by
    rw [e1] at e1'
    unfold sgn at e1'
    split at e1' <;> omega
  subst e2
  obtain ⟨vn, vx, ve, hd⟩ : ∃ vn vx ve, D.pl ⟨s, valN 4503599627370496 2047 k, valP 4503599627370496 2047 (-1074) k⟩ = ⟨vn, vx, ve⟩ := ⟨_, _, _, rfl⟩
  have hv := (val_abs f64 s k hk).1
  have hm2 := (val_may f64 k s).2
  rw [← e1, hd] at hv
  rw [hd] at e4 e5 e4' e5' hm2
  obtain ⟨⟨p, f1, er1⟩, h1⟩ : ∃ r, roundS 11 1024 31 32768 (-24) mode a false = r := ⟨_, rfl⟩
  obtain ⟨⟨p', f2, er2⟩, h2⟩ : ∃ r, roundS 11 1024 31 32768 (-24) mode ⟨vn, vx, ve⟩ s = r := ⟨_, rfl⟩
  obtain ⟨⟨q, f3, er3⟩, h3⟩ : ∃ r, roundS 24 8388608 255 2147483648 (-149) mode a false = r := ⟨_, rfl⟩
  obtain ⟨⟨q', f4, er4⟩, h4⟩ : ∃ r, roundS 24 8388608 255 2147483648 (-149) mode ⟨vn, vx, ve⟩ s = r := ⟨_, rfl⟩
  rw [h1] at e3 e5
  rw [h2] at e4 e5
  rw [h3] at e3' e5'
  rw [h4] at e4' e5'
  simp only at e3 e4 e5 e3' e4' e5'
  subst e3 e4 e5 e3' e4' e5'
  refine ⟨u, _, _, fl, f1, f2, f3, f4, vn, s, vx, ve, hu, ?_, by omega, hv, ((D.may_iff _).1 hm2).1, p3, h1, h2, h3, h4⟩
  rcases hf with rfl | rfl | rfl | rfl
  · decide
  · decide
  · decide
  · exact absurd rfl hfl
theorem nested_walk (mode : Int) {n0 : Bool} {A0 : Option Addr} {l0 c0 x0 : Nat} {e0 : Int} {w : World} (h0 : Arg w A0 l0 c0 x0) (hT : Tab w) (hF : Frm w) : Calls Tryd.prog 8 #[.int .i64 mode, .agg #[.bool n0, .slice A0 l0 c0, .int .i64 e0]] w fun e w' => e = .returned (.bool true) ∧ Below w.heap.size w w' := by
  by_cases gl : 40 < (l0 : Int)
  · exact nested_gl mode h0 hT hF (decide_eq_true gl)
  by_cases g1 : e0 < -1200
  · exact nested_g1 mode h0 hT hF (decide_eq_false gl) (decide_eq_true g1)
  by_cases g2 : 1100 < e0
  · exact nested_g2 mode h0 hT hF (decide_eq_false gl) (decide_eq_false g1) (decide_eq_true g2)
  have gl' := decide_eq_false gl
  have g1' := decide_eq_false g1
  have g2' := decide_eq_false g2
  have hx := h0.blen
  obtain ⟨k1, k2, k3, k4⟩ := law_may (a := ⟨n0, x0, e0⟩) (by simp only; omega) (by simp only; omega) (by simp only; omega)
  by_cases hmode : mode = 1 ∨ mode = 2 ∨ mode = 3
  · by_cases h5 : (roundS 53 4503599627370496 2047 9223372036854775808 (-1074) mode ⟨n0, x0, e0⟩ false).2.1 = 5
    · obtain ⟨⟨u, fl, er⟩, hu⟩ : ∃ r, roundS 53 4503599627370496 2047 9223372036854775808 (-1074) mode ⟨n0, x0, e0⟩ false = r := ⟨_, rfl⟩
      obtain ⟨_, _, _, _, t, _⟩ := round_vl f64 (mode := mode) ⟨by omega, by omega⟩ k2
      rw [hu] at h5 t
      simp only at h5 t
      subst h5 t
      rcases hmode with rfl | rfl | rfl
      · exact nested_over_1 h0 hT hF gl' g1' g2' (Lib.hid hu)
      · exact nested_over_2 h0 hT hF gl' g1' g2' (Lib.hid hu)
      · exact nested_over_3 h0 hT hF gl' g1' g2' (Lib.hid hu)
    · obtain ⟨u, p, q, fl, f1, f2, f3, f4, vn, s, vx, ve, t1, t2, t3, t4, t5, t6, t7, t8, t9, t10⟩ := nested_math hmode k2 (by show -40000 ≤ e0; omega) h5
      rcases hmode with rfl | rfl | rfl
      · exact nested_main_1 h0 hT hF gl' g1' g2' (Lib.hid t1) t2 t3 (Lib.hid t4) t5 (Lib.hid t6) (Lib.hid t7) (Lib.hid t8) (Lib.hid t9) (Lib.hid t10)
      · exact nested_main_2 h0 hT hF gl' g1' g2' (Lib.hid t1) t2 t3 (Lib.hid t4) t5 (Lib.hid t6) (Lib.hid t7) (Lib.hid t8) (Lib.hid t9) (Lib.hid t10)
      · exact nested_main_3 h0 hT hF gl' g1' g2' (Lib.hid t1) t2 t3 (Lib.hid t4) t5 (Lib.hid t6) (Lib.hid t7) (Lib.hid t8) (Lib.hid t9) (Lib.hid t10)
  · exact nested_gm mode h0 hT hF gl' g1' g2' (by simp; omega) (by simp; omega) (by simp; omega)
end Go.Proofs.YtkjbejdeejpdoaaDoor
