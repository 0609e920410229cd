
/-
  The walks of the laws IeeeAgain and IeeeExact.
-/
import Derived.Test.YtpachoeignpcbaaDoorIi
import Derived.Test.YtpachoeignpcbaaDoorIj
import Derived.LoopN
namespace Go.Proofs.YtpachoeignpcbaaDoor
open Go.RowKit
set_option linter.unusedVariables false

theorem again5_bad (bits : Int) (mode : Int) (ba bb bc : Nat) (h1 : bits ≠ 16) (h2 : bits ≠ 32) (h3 : bits ≠ 64) {w : World} (hT : Tab w) (hF : Frm w) :
    Calls Tryd.prog 6 #[.int .i64 bits, .int .i64 mode, .int .u64 (ba : Int), .int .u64 (bb : Int), .int .u64 (bc : Int)] w fun e w' => e = .returned (.bool true) ∧ Below w.heap.size w w' := by
  go_enter Tryd.func6, Tryd.ntmps6
  go_wp2_with fail
  refine (awake5_any hT hF).mono ?_
  rintro en w1 ⟨rfl, b⟩
  replace hT := hT.on b
  replace hF := hF.on b
  have BW := b
  clear b
  go_wp2_with fail
  refine (of_bad bits h1 h2 h3 _ hF).mono ?_
  rintro en w2 ⟨rfl, b⟩
  replace hT := hT.on b
  replace hF := hF.on b
  replace BW := Below.step BW b
  clear b
  go_wp2_with fail
  go_ret
  exact ⟨rfl, below_k BW _⟩
theorem again5_m1 {B P W M E H : Nat} {low : Int} (hf : Fm B P W M E H low) (mode : Int) (ba bb bc : Nat) (hba : ba < 18446744073709551616) (hbb : bb < 18446744073709551616) (hbc : bc < 18446744073709551616) {w : World} (hT : Tab w) (hF : Frm w) (d1 : decide (mode < 0) = true) (hr : fmaI P M E H low mode ba bb bc = (0, 0, 1)) :
    Calls Tryd.prog 6 #[.int .i64 (B : Int), .int .i64 mode, .int .u64 (ba : Int), .int .u64 (bb : Int), .int .u64 (bc : Int)] w fun e w' => e = .returned (.bool true) ∧ Below w.heap.size w w' := by
  have HR := Lib.hid hr
  clear hr
  go_enter Tryd.func6, Tryd.ntmps6
  go_wp2_with fail
  refine (awake5_any hT hF).mono ?_
  rintro en w1 ⟨rfl, b⟩
  replace hT := hT.on b
  replace hF := hF.on b
  have BW := b
  clear b
  go_wp2_with fail
  refine (of_fm hf _ hF).mono ?_
  rintro en w2 ⟨rfl, b⟩
  replace hT := hT.on b
  replace hF := hF.on b
  replace BW := Below.step BW b
  clear b
  go_upto_region 4 with fail
  obtain ⟨w3, e_w3⟩ : ∃ w', w2.alloc (.cells #[.int .i64 (B : Int), .int .i64 (P : Int), .int .i64 (W : Int)] 25) = w' := ⟨_, rfl⟩
  have b : Below w2.heap.size w2 w3 := e_w3 ▸ below_lit _ _
  have hs_w3 : w3.heap.size = w2.heap.size + 1 := e_w3 ▸ size_lit w2 _ rfl
  have zf : FB w3 w2.heap.size 25 (B : Int) (P : Int) (W : Int) := e_w3 ▸ FB.made_k w2 rfl 25 _ _ _
  rw [e_w3]
  clear e_w3
  replace hT := hT.on b
  replace hF := hF.on b
  replace BW := Below.step BW b
  clear b
  clear hs_w3
  clear hF
  obtain ⟨zfc0, zfc1, zfc2, zff0, zff1, zff2, zfl⟩ := zf.cells
  go_wp2_with fail
  refine (fma_as hf mode ba bb bc hba hbb hbc hT HR.out).mono ?_
  rintro en w4 ⟨rfl, b⟩
  clear zfc0 zfc1 zfc2 zff0 zff1 zff2 zfl
  replace hT := hT.on b
  replace zf := zf.on b
  replace BW := Below.step BW b
  clear b
  obtain ⟨zfc0, zfc1, zfc2, zff0, zff1, zff2, zfl⟩ := zf.cells
  go_wp2_with fail
  go_ret
  exact ⟨rfl, BW⟩
theorem again5_m2 {B P W M E H : Nat} {low : Int} (hf : Fm B P W M E H low) (mode : Int) (ba bb bc : Nat) (hba : ba < 18446744073709551616) (hbb : bb < 18446744073709551616) (hbc : bc < 18446744073709551616) {w : World} (hT : Tab w) (hF : Frm w) (d1 : decide (mode < 0) = false) (d2 : decide (5 ≤ mode) = true) (hr : fmaI P M E H low mode ba bb bc = (0, 0, 1)) :
    Calls Tryd.prog 6 #[.int .i64 (B : Int), .int .i64 mode, .int .u64 (ba : Int), .int .u64 (bb : Int), .int .u64 (bc : Int)] w fun e w' => e = .returned (.bool true) ∧ Below w.heap.size w w' := by
  have HR := Lib.hid hr
  clear hr
  go_enter Tryd.func6, Tryd.ntmps6
  go_wp2_with fail
  refine (awake5_any hT hF).mono ?_
  rintro en w1 ⟨rfl, b⟩
  replace hT := hT.on b
  replace hF := hF.on b
  have BW := b
  clear b
  go_wp2_with fail
  refine (of_fm hf _ hF).mono ?_
  rintro en w2 ⟨rfl, b⟩
  replace hT := hT.on b
  replace hF := hF.on b
  replace BW := Below.step BW b
  clear b
  go_upto_region 4 with fail
  obtain ⟨w3, e_w3⟩ : ∃ w', w2.alloc (.cells #[.int .i64 (B : Int), .int .i64 (P : Int), .int .i64 (W : Int)] 25) = w' := ⟨_, rfl⟩
  have b : Below w2.heap.size w2 w3 := e_w3 ▸ below_lit _ _
  have hs_w3 : w3.heap.size = w2.heap.size + 1 := e_w3 ▸ size_lit w2 _ rfl
  have zf : FB w3 w2.heap.size 25 (B : Int) (P : Int) (W : Int) := e_w3 ▸ FB.made_k w2 rfl 25 _ _ _
  rw [e_w3]
  clear e_w3
  replace hT := hT.on b
  replace hF := hF.on b
  replace BW := Below.step BW b
  clear b
  clear hs_w3
  clear hF
  obtain ⟨zfc0, zfc1, zfc2, zff0, zff1, zff2, zfl⟩ := zf.cells
  go_wp2_with fail
  refine (fma_as hf mode ba bb bc hba hbb hbc hT HR.out).mono ?_
  rintro en w4 ⟨rfl, b⟩
  clear zfc0 zfc1 zfc2 zff0 zff1 zff2 zfl
  replace hT := hT.on b
  replace zf := zf.on b
  replace BW := Below.step BW b
  clear b
  obtain ⟨zfc0, zfc1, zfc2, zff0, zff1, zff2, zfl⟩ := zf.cells
  go_wp2_with fail
  go_ret
  exact ⟨rfl, BW⟩
theorem again5_rg {B P W M E H : Nat} {low : Int} (hf : Fm B P W M E H low) (mode : Int) (ba bb bc : Nat) (hba : ba < 18446744073709551616) (hbb : bb < 18446744073709551616) (hbc : bc < 18446744073709551616) {w : World} (hT : Tab w) (hF : Frm w) (d1 : decide (mode < 0) = false) (d2 : decide (5 ≤ mode) = false) (hr : fmaI P M E H low mode ba bb bc = (0, 0, 3)) :
    Calls Tryd.prog 6 #[.int .i64 (B : Int), .int .i64 mode, .int .u64 (ba : Int), .int .u64 (bb : Int), .int .u64 (bc : Int)] w fun e w' => e = .returned (.bool true) ∧ Below w.heap.size w w' := by
  have HR := Lib.hid hr
  clear hr
  go_enter Tryd.func6, Tryd.ntmps6
  go_wp2_with fail
  refine (awake5_any hT hF).mono ?_
  rintro en w1 ⟨rfl, b⟩
  replace hT := hT.on b
  replace hF := hF.on b
  have BW := b
  clear b
  go_wp2_with fail
  refine (of_fm hf _ hF).mono ?_
  rintro en w2 ⟨rfl, b⟩
  replace hT := hT.on b
  replace hF := hF.on b
  replace BW := Below.step BW b
  clear b
  go_upto_region 4 with fail
  obtain ⟨w3, e_w3⟩ : ∃ w', w2.alloc (.cells #[.int .i64 (B : Int), .int .i64 (P : Int), .int .i64 (W : Int)] 25) = w' := ⟨_, rfl⟩
  have b : Below w2.heap.size w2 w3 := e_w3 ▸ below_lit _ _
  have hs_w3 : w3.heap.size = w2.heap.size + 1 := e_w3 ▸ size_lit w2 _ rfl
  have zf : FB w3 w2.heap.size 25 (B : Int) (P : Int) (W : Int) := e_w3 ▸ FB.made_k w2 rfl 25 _ _ _
  rw [e_w3]
  clear e_w3
  replace hT := hT.on b
  replace hF := hF.on b
  replace BW := Below.step BW b
  clear b
  clear hs_w3
  clear hF
  obtain ⟨zfc0, zfc1, zfc2, zff0, zff1, zff2, zfl⟩ := zf.cells
  go_wp2_with fail
  refine (fma_as hf mode ba bb bc hba hbb hbc hT HR.out).mono ?_
  rintro en w4 ⟨rfl, b⟩
  clear zfc0 zfc1 zfc2 zff0 zff1 zff2 zfl
  replace hT := hT.on b
  replace zf := zf.on b
  replace BW := Below.step BW b
  clear b
  obtain ⟨zfc0, zfc1, zfc2, zff0, zff1, zff2, zfl⟩ := zf.cells
  go_wp2_with fail
  go_ret
  exact ⟨rfl, BW⟩
set_option maxHeartbeats 4000000 in
set_option maxRecDepth 100000 in
theorem again5_aum {B P W M E H : Nat} {low : Int} (hf : Fm B P W M E H low) (mode : Int) (ba bb bc : Nat) (hba : ba < 18446744073709551616) (hbb : bb < 18446744073709551616) (hbc : bc < 18446744073709551616) {w : World} (hT : Tab w) (hF : Frm w) {t : Nat} {fl q : Int} (hr : fmaI P M E H low mode ba bb bc = (t, fl, 0)) (ht : t < 18446744073709551616) (hm : decide (t < 2 * H) = true) (hq : clsS M E t = q) (f1 : decide (fl < 0) = false) (f2 : decide (32 ≤ fl) = false) (f8 : bits BinOp.and IntKind.i64 fl 8 = 0) (q5 : (q == 5) = false) (ha : numB M E H ba = false) (q4 : (q == 4) = true) (f16 : bits BinOp.andNot IntKind.i64 fl 16 = 0) :
    Calls Tryd.prog 6 #[.int .i64 (B : Int), .int .i64 mode, .int .u64 (ba : Int), .int .u64 (bb : Int), .int .u64 (bc : Int)] w fun e w' => e = .returned (.bool true) ∧ Below w.heap.size w w' := by
  have HR := Lib.hid hr
  clear hr
  have HM := Lib.hid (fun V => fmay_as hf t ht true hm V)
  have HC := Lib.hid (fun V => class_as hf t q ht hq V)
  clear hm hq
  have HNA := Lib.hid (fun V => number_as hf ba hba false ha V)
  go_enter Tryd.func6, Tryd.ntmps6
  go_wp2_with fail
  refine (awake5_any hT hF).mono ?_
  rintro en w1 ⟨rfl, b⟩
  replace hT := hT.on b
  replace hF := hF.on b
  have BW := b
  clear b
  go_wp2_with fail
  refine (of_fm hf _ hF).mono ?_
  rintro en w2 ⟨rfl, b⟩
  replace hT := hT.on b
  replace hF := hF.on b
  replace BW := Below.step BW b
  clear b
  go_upto_region 4 with fail
  obtain ⟨w3, e_w3⟩ : ∃ w', w2.alloc (.cells #[.int .i64 (B : Int), .int .i64 (P : Int), .int .i64 (W : Int)] 25) = w' := ⟨_, rfl⟩
  have b : Below w2.heap.size w2 w3 := e_w3 ▸ below_lit _ _
  have hs_w3 : w3.heap.size = w2.heap.size + 1 := e_w3 ▸ size_lit w2 _ rfl
  have zf : FB w3 w2.heap.size 25 (B : Int) (P : Int) (W : Int) := e_w3 ▸ FB.made_k w2 rfl 25 _ _ _
  rw [e_w3]
  clear e_w3
  replace hT := hT.on b
  replace hF := hF.on b
  replace BW := Below.step BW b
  clear b
  clear hs_w3
  clear hF
  obtain ⟨zfc0, zfc1, zfc2, zff0, zff1, zff2, zfl⟩ := zf.cells
  go_wp2_with fail
  refine (fma_as hf mode ba bb bc hba hbb hbc hT HR.out).mono ?_
  rintro en w4 ⟨rfl, b⟩
  clear zfc0 zfc1 zfc2 zff0 zff1 zff2 zfl
  replace hT := hT.on b
  replace zf := zf.on b
  replace BW := Below.step BW b
  clear b
  obtain ⟨zfc0, zfc1, zfc2, zff0, zff1, zff2, zfl⟩ := zf.cells
  go_wp2_with fail
  refine (HM.out _).mono ?_
  rintro en w5 ⟨rfl, b⟩
  clear zfc0 zfc1 zfc2 zff0 zff1 zff2 zfl
  replace hT := hT.on b
  replace zf := zf.on b
  replace BW := Below.step BW b
  clear b
  obtain ⟨zfc0, zfc1, zfc2, zff0, zff1, zff2, zfl⟩ := zf.cells
  go_wp2_with fail
  refine (HC.out _).mono ?_
  rintro en w6 ⟨rfl, b⟩
  clear zfc0 zfc1 zfc2 zff0 zff1 zff2 zfl
  replace hT := hT.on b
  replace zf := zf.on b
  replace BW := Below.step BW b
  clear b
  obtain ⟨zfc0, zfc1, zfc2, zff0, zff1, zff2, zfl⟩ := zf.cells
  go_wp2_with fail
  refine (HNA.out _).mono ?_
  rintro en w7 ⟨rfl, b⟩
  clear zfc0 zfc1 zfc2 zff0 zff1 zff2 zfl
  replace hT := hT.on b
  replace zf := zf.on b
  replace BW := Below.step BW b
  clear b
  obtain ⟨zfc0, zfc1, zfc2, zff0, zff1, zff2, zfl⟩ := zf.cells
  go_wp2_with fail
  refine (HC.out _).mono ?_
  rintro en w8 ⟨rfl, b⟩
  clear zfc0 zfc1 zfc2 zff0 zff1 zff2 zfl
  replace hT := hT.on b
  replace zf := zf.on b
  replace BW := Below.step BW b
  clear b
  obtain ⟨zfc0, zfc1, zfc2, zff0, zff1, zff2, zfl⟩ := zf.cells
  go_wp2_with fail
  go_ret
  exact ⟨rfl, BW⟩
set_option maxHeartbeats 4000000 in
set_option maxRecDepth 100000 in
theorem again5_bum {B P W M E H : Nat} {low : Int} (hf : Fm B P W M E H low) (mode : Int) (ba bb bc : Nat) (hba : ba < 18446744073709551616) (hbb : bb < 18446744073709551616) (hbc : bc < 18446744073709551616) {w : World} (hT : Tab w) (hF : Frm w) {t : Nat} {fl q : Int} (hr : fmaI P M E H low mode ba bb bc = (t, fl, 0)) (ht : t < 18446744073709551616) (hm : decide (t < 2 * H) = true) (hq : clsS M E t = q) (f1 : decide (fl < 0) = false) (f2 : decide (32 ≤ fl) = false) (f8 : bits BinOp.and IntKind.i64 fl 8 = 0) (q5 : (q == 5) = false) (ha : numB M E H ba = true) (hb : numB M E H bb = false) (q4 : (q == 4) = true) (f16 : bits BinOp.andNot IntKind.i64 fl 16 = 0) :
    Calls Tryd.prog 6 #[.int .i64 (B : Int), .int .i64 mode, .int .u64 (ba : Int), .int .u64 (bb : Int), .int .u64 (bc : Int)] w fun e w' => e = .returned (.bool true) ∧ Below w.heap.size w w' := by
  have HR := Lib.hid hr
  clear hr
  have HM := Lib.hid (fun V => fmay_as hf t ht true hm V)
  have HC := Lib.hid (fun V => class_as hf t q ht hq V)
  clear hm hq
  have HNA := Lib.hid (fun V => number_as hf ba hba true ha V)
  have HNB := Lib.hid (fun V => number_as hf bb hbb false hb V)
  go_enter Tryd.func6, Tryd.ntmps6
  go_wp2_with fail
  refine (awake5_any hT hF).mono ?_
  rintro en w1 ⟨rfl, b⟩
  replace hT := hT.on b
  replace hF := hF.on b
  have BW := b
  clear b
  go_wp2_with fail
  refine (of_fm hf _ hF).mono ?_
  rintro en w2 ⟨rfl, b⟩
  replace hT := hT.on b
  replace hF := hF.on b
  replace BW := Below.step BW b
  clear b
  go_upto_region 4 with fail
  obtain ⟨w3, e_w3⟩ : ∃ w', w2.alloc (.cells #[.int .i64 (B : Int), .int .i64 (P : Int), .int .i64 (W : Int)] 25) = w' := ⟨_, rfl⟩
  have b : Below w2.heap.size w2 w3 := e_w3 ▸ below_lit _ _
  have hs_w3 : w3.heap.size = w2.heap.size + 1 := e_w3 ▸ size_lit w2 _ rfl
  have zf : FB w3 w2.heap.size 25 (B : Int) (P : Int) (W : Int) := e_w3 ▸ FB.made_k w2 rfl 25 _ _ _
  rw [e_w3]
  clear e_w3
  replace hT := hT.on b
  replace hF := hF.on b
  replace BW := Below.step BW b
  clear b
  clear hs_w3
  clear hF
  obtain ⟨zfc0, zfc1, zfc2, zff0, zff1, zff2, zfl⟩ := zf.cells
  go_wp2_with fail
  refine (fma_as hf mode ba bb bc hba hbb hbc hT HR.out).mono ?_
  rintro en w4 ⟨rfl, b⟩
  clear zfc0 zfc1 zfc2 zff0 zff1 zff2 zfl
  replace hT := hT.on b
  replace zf := zf.on b
  replace BW := Below.step BW b
  clear b
  obtain ⟨zfc0, zfc1, zfc2, zff0, zff1, zff2, zfl⟩ := zf.cells
  go_wp2_with fail
  refine (HM.out _).mono ?_
  rintro en w5 ⟨rfl, b⟩
  clear zfc0 zfc1 zfc2 zff0 zff1 zff2 zfl
  replace hT := hT.on b
  replace zf := zf.on b
  replace BW := Below.step BW b
  clear b
  obtain ⟨zfc0, zfc1, zfc2, zff0, zff1, zff2, zfl⟩ := zf.cells
  go_wp2_with fail
  refine (HC.out _).mono ?_
  rintro en w6 ⟨rfl, b⟩
  clear zfc0 zfc1 zfc2 zff0 zff1 zff2 zfl
  replace hT := hT.on b
  replace zf := zf.on b
  replace BW := Below.step BW b
  clear b
  obtain ⟨zfc0, zfc1, zfc2, zff0, zff1, zff2, zfl⟩ := zf.cells
  go_wp2_with fail
  refine (HNA.out _).mono ?_
  rintro en w7 ⟨rfl, b⟩
  clear zfc0 zfc1 zfc2 zff0 zff1 zff2 zfl
  replace hT := hT.on b
  replace zf := zf.on b
  replace BW := Below.step BW b
  clear b
  obtain ⟨zfc0, zfc1, zfc2, zff0, zff1, zff2, zfl⟩ := zf.cells
  go_wp2_with fail
  refine (HNB.out _).mono ?_
  rintro en w8 ⟨rfl, b⟩
  clear zfc0 zfc1 zfc2 zff0 zff1 zff2 zfl
  replace hT := hT.on b
  replace zf := zf.on b
  replace BW := Below.step BW b
  clear b
  obtain ⟨zfc0, zfc1, zfc2, zff0, zff1, zff2, zfl⟩ := zf.cells
  go_wp2_with fail
  refine (HC.out _).mono ?_
  rintro en w9 ⟨rfl, b⟩
  clear zfc0 zfc1 zfc2 zff0 zff1 zff2 zfl
  replace hT := hT.on b
  replace zf := zf.on b
  replace BW := Below.step BW b
  clear b
  obtain ⟨zfc0, zfc1, zfc2, zff0, zff1, zff2, zfl⟩ := zf.cells
  go_wp2_with fail
  go_ret
  exact ⟨rfl, BW⟩
set_option maxHeartbeats 4000000 in
set_option maxRecDepth 100000 in
theorem again5_cum {B P W M E H : Nat} {low : Int} (hf : Fm B P W M E H low) (mode : Int) (ba bb bc : Nat) (hba : ba < 18446744073709551616) (hbb : bb < 18446744073709551616) (hbc : bc < 18446744073709551616) {w : World} (hT : Tab w) (hF : Frm w) {t : Nat} {fl q : Int} (hr : fmaI P M E H low mode ba bb bc = (t, fl, 0)) (ht : t < 18446744073709551616) (hm : decide (t < 2 * H) = true) (hq : clsS M E t = q) (f1 : decide (fl < 0) = false) (f2 : decide (32 ≤ fl) = false) (f8 : bits BinOp.and IntKind.i64 fl 8 = 0) (q5 : (q == 5) = false) (ha : numB M E H ba = true) (hb : numB M E H bb = true) (hc : numB M E H bc = false) (q4 : (q == 4) = true) (f16 : bits BinOp.andNot IntKind.i64 fl 16 = 0) :
    Calls Tryd.prog 6 #[.int .i64 (B : Int), .int .i64 mode, .int .u64 (ba : Int), .int .u64 (bb : Int), .int .u64 (bc : Int)] w fun e w' => e = .returned (.bool true) ∧ Below w.heap.size w w' := by
  have HR := Lib.hid hr
  clear hr
  have HM := Lib.hid (fun V => fmay_as hf t ht true hm V)
  have HC := Lib.hid (fun V => class_as hf t q ht hq V)
  clear hm hq
  have HNA := Lib.hid (fun V => number_as hf ba hba true ha V)
  have HNB := Lib.hid (fun V => number_as hf bb hbb true hb V)
  have HNC := Lib.hid (fun V => number_as hf bc hbc false hc V)
  go_enter Tryd.func6, Tryd.ntmps6
  go_wp2_with fail
  refine (awake5_any hT hF).mono ?_
  rintro en w1 ⟨rfl, b⟩
  replace hT := hT.on b
  replace hF := hF.on b
  have BW := b
  clear b
  go_wp2_with fail
  refine (of_fm hf _ hF).mono ?_
  rintro en w2 ⟨rfl, b⟩
  replace hT := hT.on b
  replace hF := hF.on b
  replace BW := Below.step BW b
  clear b
  go_upto_region 4 with fail
  obtain ⟨w3, e_w3⟩ : ∃ w', w2.alloc (.cells #[.int .i64 (B : Int), .int .i64 (P : Int), .int .i64 (W : Int)] 25) = w' := ⟨_, rfl⟩
  have b : Below w2.heap.size w2 w3 := e_w3 ▸ below_lit _ _
  have hs_w3 : w3.heap.size = w2.heap.size + 1 := e_w3 ▸ size_lit w2 _ rfl
  have zf : FB w3 w2.heap.size 25 (B : Int) (P : Int) (W : Int) := e_w3 ▸ FB.made_k w2 rfl 25 _ _ _
  rw [e_w3]
  clear e_w3
  replace hT := hT.on b
  replace hF := hF.on b
  replace BW := Below.step BW b
  clear b
  clear hs_w3
  clear hF
  obtain ⟨zfc0, zfc1, zfc2, zff0, zff1, zff2, zfl⟩ := zf.cells
  go_wp2_with fail
  refine (fma_as hf mode ba bb bc hba hbb hbc hT HR.out).mono ?_
  rintro en w4 ⟨rfl, b⟩
  clear zfc0 zfc1 zfc2 zff0 zff1 zff2 zfl
  replace hT := hT.on b
  replace zf := zf.on b
  replace BW := Below.step BW b
  clear b
  obtain ⟨zfc0, zfc1, zfc2, zff0, zff1, zff2, zfl⟩ := zf.cells
  go_wp2_with fail
  refine (HM.out _).mono ?_
  rintro en w5 ⟨rfl, b⟩
  clear zfc0 zfc1 zfc2 zff0 zff1 zff2 zfl
  replace hT := hT.on b
  replace zf := zf.on b
  replace BW := Below.step BW b
  clear b
  obtain ⟨zfc0, zfc1, zfc2, zff0, zff1, zff2, zfl⟩ := zf.cells
  go_wp2_with fail
  refine (HC.out _).mono ?_
  rintro en w6 ⟨rfl, b⟩
  clear zfc0 zfc1 zfc2 zff0 zff1 zff2 zfl
  replace hT := hT.on b
  replace zf := zf.on b
  replace BW := Below.step BW b
  clear b
  obtain ⟨zfc0, zfc1, zfc2, zff0, zff1, zff2, zfl⟩ := zf.cells
  go_wp2_with fail
  refine (HNA.out _).mono ?_
  rintro en w7 ⟨rfl, b⟩
  clear zfc0 zfc1 zfc2 zff0 zff1 zff2 zfl
  replace hT := hT.on b
  replace zf := zf.on b
  replace BW := Below.step BW b
  clear b
  obtain ⟨zfc0, zfc1, zfc2, zff0, zff1, zff2, zfl⟩ := zf.cells
  go_wp2_with fail
  refine (HNB.out _).mono ?_
  rintro en w8 ⟨rfl, b⟩
  clear zfc0 zfc1 zfc2 zff0 zff1 zff2 zfl
  replace hT := hT.on b
  replace zf := zf.on b
  replace BW := Below.step BW b
  clear b
  obtain ⟨zfc0, zfc1, zfc2, zff0, zff1, zff2, zfl⟩ := zf.cells
  go_wp2_with fail
  refine (HNC.out _).mono ?_
  rintro en w9 ⟨rfl, b⟩
  clear zfc0 zfc1 zfc2 zff0 zff1 zff2 zfl
  replace hT := hT.on b
  replace zf := zf.on b
  replace BW := Below.step BW b
  clear b
  obtain ⟨zfc0, zfc1, zfc2, zff0, zff1, zff2, zfl⟩ := zf.cells
  go_wp2_with fail
  refine (HC.out _).mono ?_
  rintro en w10 ⟨rfl, b⟩
  clear zfc0 zfc1 zfc2 zff0 zff1 zff2 zfl
  replace hT := hT.on b
  replace zf := zf.on b
  replace BW := Below.step BW b
  clear b
  obtain ⟨zfc0, zfc1, zfc2, zff0, zff1, zff2, zfl⟩ := zf.cells
  go_wp2_with fail
  go_ret
  exact ⟨rfl, BW⟩
set_option maxHeartbeats 4000000 in
set_option maxRecDepth 100000 in
theorem again5_num {B P W M E H : Nat} {low : Int} (hf : Fm B P W M E H low) (mode : Int) (ba bb bc : Nat) (hba : ba < 18446744073709551616) (hbb : bb < 18446744073709551616) (hbc : bc < 18446744073709551616) {w : World} (hT : Tab w) (hF : Frm w) {t : Nat} {fl q : Int} (hr : fmaI P M E H low mode ba bb bc = (t, fl, 0)) (ht : t < 18446744073709551616) (hm : decide (t < 2 * H) = true) (hq : clsS M E t = q) (f1 : decide (fl < 0) = false) (f2 : decide (32 ≤ fl) = false) (f8 : bits BinOp.and IntKind.i64 fl 8 = 0) (q5 : (q == 5) = false) (ha : numB M E H ba = true) (hb : numB M E H bb = true) (hc : numB M E H bc = true) (z : Bool) (q4 : (q == 4) = z) (f16 : (fl == 16) = z) :
    Calls Tryd.prog 6 #[.int .i64 (B : Int), .int .i64 mode, .int .u64 (ba : Int), .int .u64 (bb : Int), .int .u64 (bc : Int)] w fun e w' => e = .returned (.bool true) ∧ Below w.heap.size w w' := by
  have HR := Lib.hid hr
  clear hr
  have HM := Lib.hid (fun V => fmay_as hf t ht true hm V)
  have HC := Lib.hid (fun V => class_as hf t q ht hq V)
  clear hm hq
  have HNA := Lib.hid (fun V => number_as hf ba hba true ha V)
  have HNB := Lib.hid (fun V => number_as hf bb hbb true hb V)
  have HNC := Lib.hid (fun V => number_as hf bc hbc true hc V)
  go_enter Tryd.func6, Tryd.ntmps6
  go_wp2_with fail
  refine (awake5_any hT hF).mono ?_
  rintro en w1 ⟨rfl, b⟩
  replace hT := hT.on b
  replace hF := hF.on b
  have BW := b
  clear b
  go_wp2_with fail
  refine (of_fm hf _ hF).mono ?_
  rintro en w2 ⟨rfl, b⟩
  replace hT := hT.on b
  replace hF := hF.on b
  replace BW := Below.step BW b
  clear b
  go_upto_region 4 with fail
  obtain ⟨w3, e_w3⟩ : ∃ w', w2.alloc (.cells #[.int .i64 (B : Int), .int .i64 (P : Int), .int .i64 (W : Int)] 25) = w' := ⟨_, rfl⟩
  have b : Below w2.heap.size w2 w3 := e_w3 ▸ below_lit _ _
  have hs_w3 : w3.heap.size = w2.heap.size + 1 := e_w3 ▸ size_lit w2 _ rfl
  have zf : FB w3 w2.heap.size 25 (B : Int) (P : Int) (W : Int) := e_w3 ▸ FB.made_k w2 rfl 25 _ _ _
  rw [e_w3]
  clear e_w3
  replace hT := hT.on b
  replace hF := hF.on b
  replace BW := Below.step BW b
  clear b
  clear hs_w3
  clear hF
  obtain ⟨zfc0, zfc1, zfc2, zff0, zff1, zff2, zfl⟩ := zf.cells
  go_wp2_with fail
  refine (fma_as hf mode ba bb bc hba hbb hbc hT HR.out).mono ?_
  rintro en w4 ⟨rfl, b⟩
  clear zfc0 zfc1 zfc2 zff0 zff1 zff2 zfl
  replace hT := hT.on b
  replace zf := zf.on b
  replace BW := Below.step BW b
  clear b
  obtain ⟨zfc0, zfc1, zfc2, zff0, zff1, zff2, zfl⟩ := zf.cells
  go_wp2_with fail
  refine (HM.out _).mono ?_
  rintro en w5 ⟨rfl, b⟩
  clear zfc0 zfc1 zfc2 zff0 zff1 zff2 zfl
  replace hT := hT.on b
  replace zf := zf.on b
  replace BW := Below.step BW b
  clear b
  obtain ⟨zfc0, zfc1, zfc2, zff0, zff1, zff2, zfl⟩ := zf.cells
  go_wp2_with fail
  refine (HC.out _).mono ?_
  rintro en w6 ⟨rfl, b⟩
  clear zfc0 zfc1 zfc2 zff0 zff1 zff2 zfl
  replace hT := hT.on b
  replace zf := zf.on b
  replace BW := Below.step BW b
  clear b
  obtain ⟨zfc0, zfc1, zfc2, zff0, zff1, zff2, zfl⟩ := zf.cells
  go_wp2_with fail
  refine (HNA.out _).mono ?_
  rintro en w7 ⟨rfl, b⟩
  clear zfc0 zfc1 zfc2 zff0 zff1 zff2 zfl
  replace hT := hT.on b
  replace zf := zf.on b
  replace BW := Below.step BW b
  clear b
  obtain ⟨zfc0, zfc1, zfc2, zff0, zff1, zff2, zfl⟩ := zf.cells
  go_wp2_with fail
  refine (HNB.out _).mono ?_
  rintro en w8 ⟨rfl, b⟩
  clear zfc0 zfc1 zfc2 zff0 zff1 zff2 zfl
  replace hT := hT.on b
  replace zf := zf.on b
  replace BW := Below.step BW b
  clear b
  obtain ⟨zfc0, zfc1, zfc2, zff0, zff1, zff2, zfl⟩ := zf.cells
  go_wp2_with fail
  refine (HNC.out _).mono ?_
  rintro en w9 ⟨rfl, b⟩
  clear zfc0 zfc1 zfc2 zff0 zff1 zff2 zfl
  replace hT := hT.on b
  replace zf := zf.on b
  replace BW := Below.step BW b
  clear b
  obtain ⟨zfc0, zfc1, zfc2, zff0, zff1, zff2, zfl⟩ := zf.cells
  go_wp2_with fail
  refine (HC.out _).mono ?_
  rintro en w10 ⟨rfl, b⟩
  clear zfc0 zfc1 zfc2 zff0 zff1 zff2 zfl
  replace hT := hT.on b
  replace zf := zf.on b
  replace BW := Below.step BW b
  clear b
  obtain ⟨zfc0, zfc1, zfc2, zff0, zff1, zff2, zfl⟩ := zf.cells
  go_wp2_with fail
  go_ret
  exact ⟨rfl, BW⟩
theorem again5_walk (bits : Int) (mode : Int) (ba : Nat) (hba : ba < 18446744073709551616) (bb : Nat) (hbb : bb < 18446744073709551616) (bc : Nat) (hbc : bc < 18446744073709551616) {w : World} (hT : Tab w) (hF : Frm w) :
    Calls Tryd.prog 6 #[.int .i64 bits, .int .i64 mode, .int .u64 (ba : Int), .int .u64 (bb : Int), .int .u64 (bc : Int)] w fun e w' => e = .returned (.bool true) ∧ Below w.heap.size w w' := by
  rcases fm_of bits with ⟨B, P, W, M, E, H, low, hf, rfl⟩ | ⟨h1, h2, h3⟩
  · have hbd := hf.bd
    by_cases m1 : mode < 0
    · refine again5_m1 hf mode ba bb bc hba hbb hbc hT hF (decide_eq_true m1) ?_
      unfold fmaI wrongS
      rw [if_pos (Or.inl m1), if_pos (by decide)]
    by_cases m2 : 5 ≤ mode
    · refine again5_m2 hf mode ba bb bc hba hbb hbc hT hF (decide_eq_false m1) (decide_eq_true m2) ?_
      unfold fmaI wrongS
      rw [if_pos (Or.inr (by omega)), if_pos (by decide)]
    by_cases hr : ba < 2 * H ∧ bb < 2 * H ∧ bc < 2 * H
    · obtain ⟨a1, b1, c1⟩ := hr
      obtain ⟨t, fl, h1, h2, h3⟩ := fma_out hf (mode := mode) ⟨by omega, by omega⟩ a1 b1 c1
      obtain ⟨q, hq⟩ : ∃ q, clsS M E t = q := ⟨_, rfl⟩
      rw [hq] at h3
      have ea : numB M E H ba = !nanB M E ba := by unfold numB; rw [decide_eq_true a1, Bool.true_and]
      have eb : numB M E H bb = !nanB M E bb := by unfold numB; rw [decide_eq_true b1, Bool.true_and]
      have ec : numB M E H bc = !nanB M E bc := by unfold numB; rw [decide_eq_true c1, Bool.true_and]
      have hfl : fl = 0 ∨ fl = 1 ∨ fl = 3 ∨ fl = 5 ∨ fl = 16 := by
        split at h3
        · rcases h3 with ⟨_, h | h | h | h⟩ | ⟨_, h⟩ <;> simp [h]
        · rcases h3 with ⟨_, h | h⟩ <;> simp [h]
      have hq5 : q ≤ 4 := by
        split at h3
        · rcases h3 with ⟨h, _⟩ | ⟨h, _⟩ <;> omega
        · omega
      have f8 : bits BinOp.and IntKind.i64 fl 8 = 0 := by rcases hfl with rfl | rfl | rfl | rfl | rfl <;> decide
      have g1 : decide (fl < 0) = false := decide_eq_false (by omega)
      have g2 : decide (32 ≤ fl) = false := decide_eq_false (by omega)
      have q5 : (q == 5) = false := by simp; omega
      have hm := decide_eq_true h2
      have key : ∀ (hn : (!nanB M E ba && (!nanB M E bb && !nanB M E bc)) = false), (q == 4) = true ∧ bits BinOp.andNot IntKind.i64 fl 16 = 0 := fun hn => by
        rw [hn, if_neg (by decide)] at h3
        refine ⟨by simp [h3.1], ?_⟩
        rcases h3.2 with rfl | rfl <;> decide
      obtain ⟨na, hna⟩ : ∃ x, nanB M E ba = x := ⟨_, rfl⟩
      obtain ⟨nb, hnb⟩ : ∃ x, nanB M E bb = x := ⟨_, rfl⟩
      obtain ⟨nc, hnc⟩ : ∃ x, nanB M E bc = x := ⟨_, rfl⟩
      rw [hna] at ea
      rw [hnb] at eb
      rw [hnc] at ec
      rw [hna, hnb, hnc] at key
      cases na
      · cases nb
        · cases nc
          · refine again5_num hf mode ba bb bc hba hbb hbc hT hF h1 (by omega) hm hq g1 g2 f8 q5 ea eb ec _ rfl ?_
            rw [hna, hnb, hnc] at h3
            simp only [Bool.not_false, Bool.and_self, if_true] at h3
            rw [Bool.eq_iff_iff]
            simp only [beq_iff_eq]
            omega
          · obtain ⟨k1, k2⟩ := key rfl
            exact again5_cum hf mode ba bb bc hba hbb hbc hT hF h1 (by omega) hm hq g1 g2 f8 q5 ea eb ec k1 k2
        · obtain ⟨k1, k2⟩ := key rfl
          exact again5_bum hf mode ba bb bc hba hbb hbc hT hF h1 (by omega) hm hq g1 g2 f8 q5 ea eb k1 k2
      · obtain ⟨k1, k2⟩ := key rfl
        exact again5_aum hf mode ba bb bc hba hbb hbc hT hF h1 (by omega) hm hq g1 g2 f8 q5 ea k1 k2
    · refine again5_rg hf mode ba bb bc hba hbb hbc hT hF (decide_eq_false m1) (decide_eq_false m2) ?_
      have hw : wrongS H mode [ba, bb, bc] = 3 := by
        unfold wrongS
        rw [if_neg (by omega), if_neg]
        simp only [List.all_cons, List.all_nil, Bool.and_true, Bool.and_eq_true, decide_eq_true_eq]
        exact hr
      unfold fmaI
      rw [hw, if_pos (by decide)]
  · exact again5_bad bits mode ba bb bc h1 h2 h3 hT hF
end Go.Proofs.YtpachoeignpcbaaDoor
