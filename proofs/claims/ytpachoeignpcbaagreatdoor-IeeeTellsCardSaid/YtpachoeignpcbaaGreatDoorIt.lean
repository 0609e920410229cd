
/-
  The walk of the law IeeeTells.
-/
import Derived.Test.YtpachoeignpcbaaGreatDoorIs
import Derived.Test.YtpachoeignpcbaaGreatDoorIg
import Derived.Test.YtpachoeignpcbaaGreatDoorFopen
namespace Go.Proofs.YtpachoeignpcbaaGreatDoor
open Go.RowKit
set_option linter.unusedVariables false

set_option maxRecDepth 100000 in
theorem tells5_bad (bits : Int) (mode : Int) (ba bb bc : Nat) (h1 : bits ≠ 16) (h2 : bits ≠ 32) (h3 : bits ≠ 64) {w : World} (hT : Tab w) (hF : Frm w) :
    Calls Tryz.prog 3 #[.int .i64 bits, .int .i64 mode, .int .u64 (ba : Int), .int .u64 (bb : Int), .int .u64 (bc : Int)] w fun e w' => e = .returned (.bool true) ∧ Below w.heap.size w w' := by
  have q1 : (bits != 16) = true := by simpa using h1
  have q2 : (bits != 32) = true := by simpa using h2
  have q3 : (bits != 64) = true := by simpa using h3
  go_enter Tryz.func3, Tryz.ntmps3
  go_wp2_with fail
  refine (awake5_any hT hF).mono ?_
  rintro en w1 ⟨rfl, b⟩
  replace hT := hT.on b
  replace hF := hF.on b
  have BW := b
  clear b
  go_wp2_with fail
  refine (of_bad bits h1 h2 h3 _ hF).mono ?_
  rintro en w2 ⟨rfl, b⟩
  replace hT := hT.on b
  replace hF := hF.on b
  replace BW := Below.step BW b
  clear b
  go_upto_region 4 with fail
  clear hF
  clear hT
  obtain ⟨w3, e_w3⟩ : ∃ w', w2.alloc (.cells #[.int .i64 0, .int .i64 0, .int .i64 0] 25) = w' := ⟨_, rfl⟩
  have b : Below w2.heap.size w2 w3 := e_w3 ▸ below_lit _ _
  have hs_w3 : w3.heap.size = w2.heap.size + 1 := e_w3 ▸ size_lit w2 _ rfl
  rw [e_w3]
  clear e_w3
  replace BW := Below.step BW b
  clear b
  clear hs_w3
  go_wp2_with fail
  refine (rof_bad bits h1 h2 h3 _).mono ?_
  rintro en w4 ⟨rfl, b⟩
  replace BW := Below.step BW b
  clear b
  go_wp2_with fail
  go_ret
  exact ⟨rfl, below_k BW _⟩
set_option maxHeartbeats 4000000 in
set_option maxRecDepth 100000 in
theorem tells5_main {B P W M E H : Nat} {low : Int} (hf : Fm B P W M E H low) (mode : Int) (ba bb bc : Nat) (hba : ba < 18446744073709551616) (hbb : bb < 18446744073709551616) (hbc : bc < 18446744073709551616) {w : World} (hT : Tab w) (hF : Frm w) {v1 v2 v3 v4 bt : Nat} {f1 f2 f3 f4 e1 e2 e3 e4 : Int} (r1 : addI P M E H low mode ba bb = (v1, f1, e1)) (r2 : subI P M E H low mode ba bb = (v2, f2, e2)) (r3 : mulI P M E H low mode ba bb = (v3, f3, e3)) (r4 : fmaI P M E H low mode ba bb bc = (v4, f4, e4)) (hu : trnS H ba = bt) :
    Calls Tryz.prog 3 #[.int .i64 (B : Int), .int .i64 mode, .int .u64 (ba : Int), .int .u64 (bb : Int), .int .u64 (bc : Int)] w fun e w' => e = .returned (.bool true) ∧ Below w.heap.size w w' := by
  have H1 := Lib.hid r1
  have H2 := Lib.hid r2
  have H3 := Lib.hid r3
  have H4 := Lib.hid r4
  have HU := Lib.hid hu
  clear r1 r2 r3 r4 hu
  go_enter Tryz.func3, Tryz.ntmps3
  go_wp2_with fail
  refine (awake5_any hT hF).mono ?_
  rintro en w1 ⟨rfl, b⟩
  replace hT := hT.on b
  replace hF := hF.on b
  have BW := b
  clear b
  go_wp2_with fail
  refine (of_fm hf _ hF).mono ?_
  rintro en w2 ⟨rfl, b⟩
  replace hT := hT.on b
  replace hF := hF.on b
  replace BW := Below.step BW b
  clear b
  go_upto_region 4 with fail
  obtain ⟨w3, e_w3⟩ : ∃ w', w2.alloc (.cells #[.int .i64 (B : Int), .int .i64 (P : Int), .int .i64 (W : Int)] 25) = w' := ⟨_, rfl⟩
  have b : Below w2.heap.size w2 w3 := e_w3 ▸ below_lit _ _
  have hs_w3 : w3.heap.size = w2.heap.size + 1 := e_w3 ▸ size_lit w2 _ rfl
  have zf : FB w3 w2.heap.size 25 (B : Int) (P : Int) (W : Int) := e_w3 ▸ FB.made_k w2 rfl 25 _ _ _
  rw [e_w3]
  clear e_w3
  replace hT := hT.on b
  replace hF := hF.on b
  replace BW := Below.step BW b
  clear b
  clear hs_w3
  clear hF
  obtain ⟨zfc0, zfc1, zfc2, zff0, zff1, zff2, zfl⟩ := zf.cells
  go_wp2_with fail
  refine (rof_fm hf _).mono ?_
  rintro en w4 ⟨rfl, b⟩
  clear zfc0 zfc1 zfc2 zff0 zff1 zff2 zfl
  replace hT := hT.on b
  replace zf := zf.on b
  replace BW := Below.step BW b
  clear b
  go_upto_region 5 with fail
  obtain ⟨w5, e_w5⟩ : ∃ w', w4.alloc (.cells #[.int .i64 (B : Int), .int .i64 (P : Int), .int .i64 (W : Int)] 29) = w' := ⟨_, rfl⟩
  have b : Below w4.heap.size w4 w5 := e_w5 ▸ below_lit _ _
  have hs_w5 : w5.heap.size = w4.heap.size + 1 := e_w5 ▸ size_lit w4 _ rfl
  have zr : FB w5 w4.heap.size 29 (B : Int) (P : Int) (W : Int) := e_w5 ▸ FB.made_k w4 rfl 29 _ _ _
  rw [e_w5]
  clear e_w5
  replace hT := hT.on b
  replace zf := zf.on b
  replace BW := Below.step BW b
  clear b
  clear hs_w5
  obtain ⟨zfc0, zfc1, zfc2, zff0, zff1, zff2, zfl⟩ := zf.cells
  obtain ⟨zrc0, zrc1, zrc2, zrf0, zrf1, zrf2, zrl⟩ := zr.cells
  go_wp2_with fail
  refine (add_as hf mode ba bb hba hbb hT H1.out).mono ?_
  rintro en w6 ⟨rfl, b⟩
  clear zfc0 zfc1 zfc2 zff0 zff1 zff2 zfl zrc0 zrc1 zrc2 zrf0 zrf1 zrf2 zrl
  replace hT := hT.on b
  replace zf := zf.on b
  replace zr := zr.on b
  replace BW := Below.step BW b
  clear b
  obtain ⟨zfc0, zfc1, zfc2, zff0, zff1, zff2, zfl⟩ := zf.cells
  obtain ⟨zrc0, zrc1, zrc2, zrf0, zrf1, zrf2, zrl⟩ := zr.cells
  go_wp2_with fail
  refine (radd5_as hf mode ba bb hba hbb H1.out).mono ?_
  rintro en w7 ⟨rfl, b⟩
  clear zfc0 zfc1 zfc2 zff0 zff1 zff2 zfl zrc0 zrc1 zrc2 zrf0 zrf1 zrf2 zrl
  replace hT := hT.on b
  replace zf := zf.on b
  replace zr := zr.on b
  replace BW := Below.step BW b
  clear b
  obtain ⟨zfc0, zfc1, zfc2, zff0, zff1, zff2, zfl⟩ := zf.cells
  obtain ⟨zrc0, zrc1, zrc2, zrf0, zrf1, zrf2, zrl⟩ := zr.cells
  go_wp2_with fail
  refine (sub_as hf mode ba bb hba hbb hT H2.out).mono ?_
  rintro en w8 ⟨rfl, b⟩
  clear zfc0 zfc1 zfc2 zff0 zff1 zff2 zfl zrc0 zrc1 zrc2 zrf0 zrf1 zrf2 zrl
  replace hT := hT.on b
  replace zf := zf.on b
  replace zr := zr.on b
  replace BW := Below.step BW b
  clear b
  obtain ⟨zfc0, zfc1, zfc2, zff0, zff1, zff2, zfl⟩ := zf.cells
  obtain ⟨zrc0, zrc1, zrc2, zrf0, zrf1, zrf2, zrl⟩ := zr.cells
  go_wp2_with fail
  refine (rsub5_as hf mode ba bb hba hbb H2.out).mono ?_
  rintro en w9 ⟨rfl, b⟩
  clear zfc0 zfc1 zfc2 zff0 zff1 zff2 zfl zrc0 zrc1 zrc2 zrf0 zrf1 zrf2 zrl
  replace hT := hT.on b
  replace zf := zf.on b
  replace zr := zr.on b
  replace BW := Below.step BW b
  clear b
  obtain ⟨zfc0, zfc1, zfc2, zff0, zff1, zff2, zfl⟩ := zf.cells
  obtain ⟨zrc0, zrc1, zrc2, zrf0, zrf1, zrf2, zrl⟩ := zr.cells
  go_wp2_with fail
  refine (mul_as hf mode ba bb hba hbb hT H3.out).mono ?_
  rintro en w10 ⟨rfl, b⟩
  clear zfc0 zfc1 zfc2 zff0 zff1 zff2 zfl zrc0 zrc1 zrc2 zrf0 zrf1 zrf2 zrl
  replace hT := hT.on b
  replace zf := zf.on b
  replace zr := zr.on b
  replace BW := Below.step BW b
  clear b
  obtain ⟨zfc0, zfc1, zfc2, zff0, zff1, zff2, zfl⟩ := zf.cells
  obtain ⟨zrc0, zrc1, zrc2, zrf0, zrf1, zrf2, zrl⟩ := zr.cells
  go_wp2_with fail
  refine (rmul5_as hf mode ba bb hba hbb H3.out).mono ?_
  rintro en w11 ⟨rfl, b⟩
  clear zfc0 zfc1 zfc2 zff0 zff1 zff2 zfl zrc0 zrc1 zrc2 zrf0 zrf1 zrf2 zrl
  replace hT := hT.on b
  replace zf := zf.on b
  replace zr := zr.on b
  replace BW := Below.step BW b
  clear b
  obtain ⟨zfc0, zfc1, zfc2, zff0, zff1, zff2, zfl⟩ := zf.cells
  obtain ⟨zrc0, zrc1, zrc2, zrf0, zrf1, zrf2, zrl⟩ := zr.cells
  go_wp2_with fail
  refine (fma_as hf mode ba bb bc hba hbb hbc hT H4.out).mono ?_
  rintro en w12 ⟨rfl, b⟩
  clear zfc0 zfc1 zfc2 zff0 zff1 zff2 zfl zrc0 zrc1 zrc2 zrf0 zrf1 zrf2 zrl
  replace hT := hT.on b
  replace zf := zf.on b
  replace zr := zr.on b
  replace BW := Below.step BW b
  clear b
  obtain ⟨zfc0, zfc1, zfc2, zff0, zff1, zff2, zfl⟩ := zf.cells
  obtain ⟨zrc0, zrc1, zrc2, zrf0, zrf1, zrf2, zrl⟩ := zr.cells
  go_wp2_with fail
  refine (rfma_as hf mode ba bb bc hba hbb hbc H4.out).mono ?_
  rintro en w13 ⟨rfl, b⟩
  clear zfc0 zfc1 zfc2 zff0 zff1 zff2 zfl zrc0 zrc1 zrc2 zrf0 zrf1 zrf2 zrl
  replace hT := hT.on b
  replace zf := zf.on b
  replace zr := zr.on b
  replace BW := Below.step BW b
  clear b
  obtain ⟨zfc0, zfc1, zfc2, zff0, zff1, zff2, zfl⟩ := zf.cells
  obtain ⟨zrc0, zrc1, zrc2, zrf0, zrf1, zrf2, zrl⟩ := zr.cells
  go_upto_region 21 with fail
  clear zfc0 zfc1 zfc2 zff0 zff1 zff2 zfl zrc0 zrc1 zrc2 zrf0 zrf1 zrf2 zrl
  replace hT := hT.on ((Below.refl _ _).drew : Below w13.heap.size w13 w13.drew)
  replace zf := zf.on ((Below.refl _ _).drew : Below w13.heap.size w13 w13.drew)
  replace zr := zr.on ((Below.refl _ _).drew : Below w13.heap.size w13 w13.drew)
  replace BW := Lib.hid (Below.step BW ((Below.refl _ _).drew : Below w13.heap.size w13 w13.drew))
  go_region_held3 (fun w' => w'.cell? ⟨w2.heap.size, 0, none⟩ = some (.int .i64 (B : Int)) ∧ w'.cell? ⟨w2.heap.size, 1, none⟩ = some (.int .i64 (P : Int)) ∧ w'.cell? ⟨w2.heap.size, 2, none⟩ = some (.int .i64 (W : Int)) ∧ w'.cell? ⟨w4.heap.size, 0, none⟩ = some (.int .i64 (B : Int)) ∧ w'.cell? ⟨w4.heap.size, 1, none⟩ = some (.int .i64 (P : Int)) ∧ w'.cell? ⟨w4.heap.size, 2, none⟩ = some (.int .i64 (W : Int)))
    ((first | (with_reducible exact ⟨zf.cells.1, zf.cells.2.1, zf.cells.2.2.1, zr.cells.1, zr.cells.2.1, zr.cells.2.2.1⟩)))
    (first
      | (go_at_call 15
         (with_reducible refine (turned_as hf ba hba _ HU.out _).mono ?_)
         rintro en w14 ⟨rfl, b⟩
         replace hT := hT.on b
         replace zf := zf.on b
         replace zr := zr.on b
         replace BW := Lib.hid (Below.step BW.out b)
         clear b)
      | (go_at_call 16
         (with_reducible refine (rturned_as5 hf ba hba _ HU.out _).mono ?_)
         rintro en w14 ⟨rfl, b⟩
         replace hT := hT.on b
         replace zf := zf.on b
         replace zr := zr.on b
         replace BW := Lib.hid (Below.step BW.out b)
         clear b))
  all_goals replace BW := BW.out
  all_goals (go_wp2_with fail; go_ret; exact ⟨rfl, BW⟩)
theorem tells5_walk (bits : Int) (mode : Int) (ba : Nat) (hba : ba < 18446744073709551616) (bb : Nat) (hbb : bb < 18446744073709551616) (bc : Nat) (hbc : bc < 18446744073709551616) {w : World} (hT : Tab w) (hF : Frm w) :
    Calls Tryz.prog 3 #[.int .i64 bits, .int .i64 mode, .int .u64 (ba : Int), .int .u64 (bb : Int), .int .u64 (bc : Int)] w fun e w' => e = .returned (.bool true) ∧ Below w.heap.size w w' := by
  rcases fm_of bits with ⟨B, P, W, M, E, H, low, hf, rfl⟩ | ⟨h1, h2, h3⟩
  · exact tells5_main hf mode ba bb bc hba hbb hbc hT hF rfl rfl rfl rfl rfl
  · exact tells5_bad bits mode ba bb bc h1 h2 h3 hT hF
end Go.Proofs.YtpachoeignpcbaaGreatDoor
