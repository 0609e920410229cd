
/-
  The walks of the laws IeeeTurned, IeeeOne, IeeeUnit.
-/
import Derived.Test.YtpachoeignpcbaaDoorIh
import Derived.Test.YtpachoeignpcbaaDoorIg
import Derived.Test.YtpachoeignpcbaaDoorFopen
namespace Go.Proofs.YtpachoeignpcbaaDoor
open Go.RowKit
set_option linter.unusedVariables false

theorem number_far {B P W M E H : Nat} {low : Int} (hf : Fm B P W M E H low) (ba : Nat) (hba : ba < 18446744073709551616) (w : World) (hm : decide (ba < 2 * H) = false) :
    Calls Tryd.prog 13 #[.agg #[.int .i64 (B : Int), .int .i64 (P : Int), .int .i64 (W : Int)], .int .u64 (ba : Int)] w fun e w' => e = .returned (.bool false) ∧ Below w.heap.size w w' := by
  have HM := Lib.hid (fun V => fmay_as hf ba hba false hm V)
  clear hm
  go_enter Tryd.func13, Tryd.ntmps13
  go_wp2_with fail
  obtain ⟨V, hV, z4, BW, sW⟩ := fframe1 w 25 (B : Int) (P : Int) (W : Int)
  rw [hV]
  clear hV sW
  refine (HM.out _).mono ?_
  rintro en w1 ⟨rfl, b⟩
  replace z4 := z4.on b
  replace BW := Below.step BW b
  clear b
  obtain ⟨z4c0, z4c1, z4c2, z4f0, z4f1, z4f2, z4l⟩ := z4.cells
  go_wp2_with fail
  go_ret
  exact ⟨rfl, BW⟩
theorem number_near {B P W M E H : Nat} {low : Int} (hf : Fm B P W M E H low) (ba : Nat) (hba : ba < 18446744073709551616) (w : World) (hm : decide (ba < 2 * H) = true) (q : Int) (hq : clsS M E ba = q) (v : Bool) (d4 : decide (q < 4) = v) :
    Calls Tryd.prog 13 #[.agg #[.int .i64 (B : Int), .int .i64 (P : Int), .int .i64 (W : Int)], .int .u64 (ba : Int)] w fun e w' => e = .returned (.bool v) ∧ Below w.heap.size w w' := by
  have HM := Lib.hid (fun V => fmay_as hf ba hba true hm V)
  have HQ := Lib.hid (fun V => class_as hf ba q hba hq V)
  clear hm hq
  go_enter Tryd.func13, Tryd.ntmps13
  go_wp2_with fail
  obtain ⟨V, hV, z4, BW, sW⟩ := fframe1 w 25 (B : Int) (P : Int) (W : Int)
  rw [hV]
  clear hV sW
  refine (HM.out _).mono ?_
  rintro en w1 ⟨rfl, b⟩
  replace z4 := z4.on b
  replace BW := Below.step BW b
  clear b
  obtain ⟨z4c0, z4c1, z4c2, z4f0, z4f1, z4f2, z4l⟩ := z4.cells
  go_wp2_with fail
  refine (HQ.out _).mono ?_
  rintro en w2 ⟨rfl, b⟩
  clear z4c0 z4c1 z4c2 z4f0 z4f1 z4f2 z4l
  replace z4 := z4.on b
  replace BW := Below.step BW b
  clear b
  obtain ⟨z4c0, z4c1, z4c2, z4f0, z4f1, z4f2, z4l⟩ := z4.cells
  go_wp2_with fail
  go_ret
  exact ⟨rfl, BW⟩
theorem number_as {B P W M E H : Nat} {low : Int} (hf : Fm B P W M E H low) (ba : Nat) (hba : ba < 18446744073709551616) (v : Bool) (hv : numB M E H ba = v) (w : World) :
    Calls Tryd.prog 13 #[.agg #[.int .i64 (B : Int), .int .i64 (P : Int), .int .i64 (W : Int)], .int .u64 (ba : Int)] w fun e w' => e = .returned (.bool v) ∧ Below w.heap.size w w' := by
  unfold numB at hv
  obtain ⟨x, hx⟩ : ∃ x, decide (ba < 2 * H) = x := ⟨_, rfl⟩
  rw [hx] at hv
  cases x
  · simp only [Bool.false_and] at hv
    subst hv
    exact number_far hf ba hba w hx
  · refine number_near hf ba hba w hx _ rfl v ?_
    rw [← hv, Bool.true_and]
    unfold nanB
    rw [Bool.eq_iff_iff]
    simp
theorem turned5_bad (bits : Int) (mode : Int) (ba bb : Nat) (h1 : bits ≠ 16) (h2 : bits ≠ 32) (h3 : bits ≠ 64) {w : World} (hT : Tab w) (hF : Frm w) :
    Calls Tryd.prog 3 #[.int .i64 bits, .int .i64 mode, .int .u64 (ba : Int), .int .u64 (bb : Int)] w fun e w' => e = .returned (.bool true) ∧ Below w.heap.size w w' := by
  go_enter Tryd.func3, Tryd.ntmps3
  go_wp2_with fail
  refine (awake5_any hT hF).mono ?_
  rintro en w1 ⟨rfl, b⟩
  replace hT := hT.on b
  replace hF := hF.on b
  have BW := b
  clear b
  go_wp2_with fail
  refine (of_bad bits h1 h2 h3 _ hF).mono ?_
  rintro en w2 ⟨rfl, b⟩
  replace hT := hT.on b
  replace hF := hF.on b
  replace BW := Below.step BW b
  clear b
  go_wp2_with fail
  go_ret
  exact ⟨rfl, below_k BW _⟩
theorem turned5_na {B P W M E H : Nat} {low : Int} (hf : Fm B P W M E H low) (mode : Int) (ba bb : Nat) (hba : ba < 18446744073709551616) (hbb : bb < 18446744073709551616) {w : World} (hT : Tab w) (hF : Frm w) (ha : numB M E H ba = false) :
    Calls Tryd.prog 3 #[.int .i64 (B : Int), .int .i64 mode, .int .u64 (ba : Int), .int .u64 (bb : Int)] w fun e w' => e = .returned (.bool true) ∧ Below w.heap.size w w' := by
  have HA := Lib.hid (fun V => number_as hf ba hba false ha V)
  go_enter Tryd.func3, Tryd.ntmps3
  go_wp2_with fail
  refine (awake5_any hT hF).mono ?_
  rintro en w1 ⟨rfl, b⟩
  replace hT := hT.on b
  replace hF := hF.on b
  have BW := b
  clear b
  go_wp2_with fail
  refine (of_fm hf _ hF).mono ?_
  rintro en w2 ⟨rfl, b⟩
  replace hT := hT.on b
  replace hF := hF.on b
  replace BW := Below.step BW b
  clear b
  go_upto_region 4 with fail
  obtain ⟨w3, e_w3⟩ : ∃ w', w2.alloc (.cells #[.int .i64 (B : Int), .int .i64 (P : Int), .int .i64 (W : Int)] 25) = w' := ⟨_, rfl⟩
  have b : Below w2.heap.size w2 w3 := e_w3 ▸ below_lit _ _
  have hs_w3 : w3.heap.size = w2.heap.size + 1 := e_w3 ▸ size_lit w2 _ rfl
  have zf : FB w3 w2.heap.size 25 (B : Int) (P : Int) (W : Int) := e_w3 ▸ FB.made_k w2 rfl 25 _ _ _
  rw [e_w3]
  clear e_w3
  replace hT := hT.on b
  replace hF := hF.on b
  replace BW := Below.step BW b
  clear b
  clear hs_w3
  clear hF
  obtain ⟨zfc0, zfc1, zfc2, zff0, zff1, zff2, zfl⟩ := zf.cells
  go_wp2_with fail
  refine (HA.out _).mono ?_
  rintro en w4 ⟨rfl, b⟩
  clear zfc0 zfc1 zfc2 zff0 zff1 zff2 zfl
  replace hT := hT.on b
  replace zf := zf.on b
  replace BW := Below.step BW b
  clear b
  obtain ⟨zfc0, zfc1, zfc2, zff0, zff1, zff2, zfl⟩ := zf.cells
  go_wp2_with fail
  go_ret
  exact ⟨rfl, BW⟩
theorem turned5_nb {B P W M E H : Nat} {low : Int} (hf : Fm B P W M E H low) (mode : Int) (ba bb : Nat) (hba : ba < 18446744073709551616) (hbb : bb < 18446744073709551616) {w : World} (hT : Tab w) (hF : Frm w) (ha : numB M E H ba = true) (hb : numB M E H bb = false) :
    Calls Tryd.prog 3 #[.int .i64 (B : Int), .int .i64 mode, .int .u64 (ba : Int), .int .u64 (bb : Int)] w fun e w' => e = .returned (.bool true) ∧ Below w.heap.size w w' := by
  have HA := Lib.hid (fun V => number_as hf ba hba true ha V)
  have HB := Lib.hid (fun V => number_as hf bb hbb false hb V)
  go_enter Tryd.func3, Tryd.ntmps3
  go_wp2_with fail
  refine (awake5_any hT hF).mono ?_
  rintro en w1 ⟨rfl, b⟩
  replace hT := hT.on b
  replace hF := hF.on b
  have BW := b
  clear b
  go_wp2_with fail
  refine (of_fm hf _ hF).mono ?_
  rintro en w2 ⟨rfl, b⟩
  replace hT := hT.on b
  replace hF := hF.on b
  replace BW := Below.step BW b
  clear b
  go_upto_region 4 with fail
  obtain ⟨w3, e_w3⟩ : ∃ w', w2.alloc (.cells #[.int .i64 (B : Int), .int .i64 (P : Int), .int .i64 (W : Int)] 25) = w' := ⟨_, rfl⟩
  have b : Below w2.heap.size w2 w3 := e_w3 ▸ below_lit _ _
  have hs_w3 : w3.heap.size = w2.heap.size + 1 := e_w3 ▸ size_lit w2 _ rfl
  have zf : FB w3 w2.heap.size 25 (B : Int) (P : Int) (W : Int) := e_w3 ▸ FB.made_k w2 rfl 25 _ _ _
  rw [e_w3]
  clear e_w3
  replace hT := hT.on b
  replace hF := hF.on b
  replace BW := Below.step BW b
  clear b
  clear hs_w3
  clear hF
  obtain ⟨zfc0, zfc1, zfc2, zff0, zff1, zff2, zfl⟩ := zf.cells
  go_wp2_with fail
  refine (HA.out _).mono ?_
  rintro en w4 ⟨rfl, b⟩
  clear zfc0 zfc1 zfc2 zff0 zff1 zff2 zfl
  replace hT := hT.on b
  replace zf := zf.on b
  replace BW := Below.step BW b
  clear b
  obtain ⟨zfc0, zfc1, zfc2, zff0, zff1, zff2, zfl⟩ := zf.cells
  go_wp2_with fail
  refine (HB.out _).mono ?_
  rintro en w5 ⟨rfl, b⟩
  clear zfc0 zfc1 zfc2 zff0 zff1 zff2 zfl
  replace hT := hT.on b
  replace zf := zf.on b
  replace BW := Below.step BW b
  clear b
  obtain ⟨zfc0, zfc1, zfc2, zff0, zff1, zff2, zfl⟩ := zf.cells
  go_wp2_with fail
  go_ret
  exact ⟨rfl, BW⟩
set_option maxHeartbeats 4000000 in
set_option maxRecDepth 100000 in
theorem turned5_main {B P W M E H : Nat} {low : Int} (hf : Fm B P W M E H low) (mode : Int) (ba bb : Nat) (hba : ba < 18446744073709551616) (hbb : bb < 18446744073709551616) {w : World} (hT : Tab w) (hF : Frm w) (ha : numB M E H ba = true) (hb : numB M E H bb = true) (bt : Nat) (hu : trnS H bb = bt) (hbt : bt < 18446744073709551616) {v1 v2 v3 : Nat} {f1 f2 f3 e1 e2 e3 : Int} (r1 : addI P M E H low mode ba bb = (v1, f1, e1)) (r2 : addI P M E H low mode bb ba = (v1, f1, e1)) (r3 : mulI P M E H low mode ba bb = (v2, f2, e2)) (r4 : mulI P M E H low mode bb ba = (v2, f2, e2)) (r5 : subI P M E H low mode ba bb = (v3, f3, e3)) (r6 : addI P M E H low mode ba bt = (v3, f3, e3)) :
    Calls Tryd.prog 3 #[.int .i64 (B : Int), .int .i64 mode, .int .u64 (ba : Int), .int .u64 (bb : Int)] w fun e w' => e = .returned (.bool true) ∧ Below w.heap.size w w' := by
  have HA := Lib.hid (fun V => number_as hf ba hba true ha V)
  have HB := Lib.hid (fun V => number_as hf bb hbb true hb V)
  have H1 := Lib.hid r1
  have H2 := Lib.hid r2
  have H3 := Lib.hid r3
  have H4 := Lib.hid r4
  have H5 := Lib.hid r5
  have H6 := Lib.hid r6
  have HU := Lib.hid hu
  clear ha hb r1 r2 r3 r4 r5 r6 hu
  go_enter Tryd.func3, Tryd.ntmps3
  go_wp2_with fail
  refine (awake5_any hT hF).mono ?_
  rintro en w1 ⟨rfl, b⟩
  replace hT := hT.on b
  replace hF := hF.on b
  have BW := b
  clear b
  go_wp2_with fail
  refine (of_fm hf _ hF).mono ?_
  rintro en w2 ⟨rfl, b⟩
  replace hT := hT.on b
  replace hF := hF.on b
  replace BW := Below.step BW b
  clear b
  go_upto_region 4 with fail
  obtain ⟨w3, e_w3⟩ : ∃ w', w2.alloc (.cells #[.int .i64 (B : Int), .int .i64 (P : Int), .int .i64 (W : Int)] 25) = w' := ⟨_, rfl⟩
  have b : Below w2.heap.size w2 w3 := e_w3 ▸ below_lit _ _
  have hs_w3 : w3.heap.size = w2.heap.size + 1 := e_w3 ▸ size_lit w2 _ rfl
  have zf : FB w3 w2.heap.size 25 (B : Int) (P : Int) (W : Int) := e_w3 ▸ FB.made_k w2 rfl 25 _ _ _
  rw [e_w3]
  clear e_w3
  replace hT := hT.on b
  replace hF := hF.on b
  replace BW := Below.step BW b
  clear b
  clear hs_w3
  clear hF
  obtain ⟨zfc0, zfc1, zfc2, zff0, zff1, zff2, zfl⟩ := zf.cells
  go_wp2_with fail
  refine (HA.out _).mono ?_
  rintro en w4 ⟨rfl, b⟩
  clear zfc0 zfc1 zfc2 zff0 zff1 zff2 zfl
  replace hT := hT.on b
  replace zf := zf.on b
  replace BW := Below.step BW b
  clear b
  obtain ⟨zfc0, zfc1, zfc2, zff0, zff1, zff2, zfl⟩ := zf.cells
  go_wp2_with fail
  refine (HB.out _).mono ?_
  rintro en w5 ⟨rfl, b⟩
  clear zfc0 zfc1 zfc2 zff0 zff1 zff2 zfl
  replace hT := hT.on b
  replace zf := zf.on b
  replace BW := Below.step BW b
  clear b
  obtain ⟨zfc0, zfc1, zfc2, zff0, zff1, zff2, zfl⟩ := zf.cells
  go_wp2_with fail
  refine (add_as hf mode ba bb hba hbb hT H1.out).mono ?_
  rintro en w6 ⟨rfl, b⟩
  clear zfc0 zfc1 zfc2 zff0 zff1 zff2 zfl
  replace hT := hT.on b
  replace zf := zf.on b
  replace BW := Below.step BW b
  clear b
  obtain ⟨zfc0, zfc1, zfc2, zff0, zff1, zff2, zfl⟩ := zf.cells
  go_wp2_with fail
  refine (add_as hf mode bb ba hbb hba hT H2.out).mono ?_
  rintro en w7 ⟨rfl, b⟩
  clear zfc0 zfc1 zfc2 zff0 zff1 zff2 zfl
  replace hT := hT.on b
  replace zf := zf.on b
  replace BW := Below.step BW b
  clear b
  obtain ⟨zfc0, zfc1, zfc2, zff0, zff1, zff2, zfl⟩ := zf.cells
  go_wp2_with fail
  refine (mul_as hf mode ba bb hba hbb hT H3.out).mono ?_
  rintro en w8 ⟨rfl, b⟩
  clear zfc0 zfc1 zfc2 zff0 zff1 zff2 zfl
  replace hT := hT.on b
  replace zf := zf.on b
  replace BW := Below.step BW b
  clear b
  obtain ⟨zfc0, zfc1, zfc2, zff0, zff1, zff2, zfl⟩ := zf.cells
  go_wp2_with fail
  refine (mul_as hf mode bb ba hbb hba hT H4.out).mono ?_
  rintro en w9 ⟨rfl, b⟩
  clear zfc0 zfc1 zfc2 zff0 zff1 zff2 zfl
  replace hT := hT.on b
  replace zf := zf.on b
  replace BW := Below.step BW b
  clear b
  obtain ⟨zfc0, zfc1, zfc2, zff0, zff1, zff2, zfl⟩ := zf.cells
  go_wp2_with fail
  refine (sub_as hf mode ba bb hba hbb hT H5.out).mono ?_
  rintro en w10 ⟨rfl, b⟩
  clear zfc0 zfc1 zfc2 zff0 zff1 zff2 zfl
  replace hT := hT.on b
  replace zf := zf.on b
  replace BW := Below.step BW b
  clear b
  obtain ⟨zfc0, zfc1, zfc2, zff0, zff1, zff2, zfl⟩ := zf.cells
  go_wp2_with fail
  clear zfc0 zfc1 zfc2 zff0 zff1 zff2 zfl
  replace hT := hT.on ((Below.refl _ _).drew : Below w10.heap.size w10 w10.drew)
  replace zf := zf.on ((Below.refl _ _).drew : Below w10.heap.size w10 w10.drew)
  replace BW := Lib.hid (Below.step BW ((Below.refl _ _).drew : Below w10.heap.size w10 w10.drew))
  go_region_held3 (fun w' => w'.cell? ⟨w2.heap.size, 0, none⟩ = some (.int .i64 (B : Int)) ∧ w'.cell? ⟨w2.heap.size, 1, none⟩ = some (.int .i64 (P : Int)) ∧ w'.cell? ⟨w2.heap.size, 2, none⟩ = some (.int .i64 (W : Int)))
    ((first | (with_reducible exact ⟨zf.cells.1, zf.cells.2.1, zf.cells.2.2.1⟩)))
    (first
      | (go_at_call 17
         (with_reducible refine (turned_as hf bb hbb _ HU.out _).mono ?_)
         rintro en w11 ⟨rfl, b⟩
         replace hT := hT.on b
         replace zf := zf.on b
         replace BW := Lib.hid (Below.step BW.out b)
         clear b)
      | (go_at_call 14
         (with_reducible refine (add_as hf mode ba bt hba hbt hT H6.out).mono ?_)
         rintro en w12 ⟨rfl, b⟩
         replace hT := hT.on b
         replace zf := zf.on b
         replace BW := Lib.hid (Below.step BW.out b)
         clear b))
  all_goals replace BW := BW.out
  go_wp2_with fail
  go_ret
  exact ⟨rfl, BW⟩
theorem turned5_walk (bits : Int) (mode : Int) (ba : Nat) (hba : ba < 18446744073709551616) (bb : Nat) (hbb : bb < 18446744073709551616) {w : World} (hT : Tab w) (hF : Frm w) :
    Calls Tryd.prog 3 #[.int .i64 bits, .int .i64 mode, .int .u64 (ba : Int), .int .u64 (bb : Int)] w fun e w' => e = .returned (.bool true) ∧ Below w.heap.size w w' := by
  rcases fm_of bits with ⟨B, P, W, M, E, H, low, hf, rfl⟩ | ⟨h1, h2, h3⟩
  · obtain ⟨x, hx⟩ : ∃ x, numB M E H ba = x := ⟨_, rfl⟩
    cases x
    · exact turned5_na hf mode ba bb hba hbb hT hF hx
    obtain ⟨y, hy⟩ : ∃ y, numB M E H bb = y := ⟨_, rfl⟩
    cases y
    · exact turned5_nb hf mode ba bb hba hbb hT hF hx hy
    obtain ⟨a1, a2⟩ := numB_iff.1 hx
    obtain ⟨b1, b2⟩ := numB_iff.1 hy
    have hbd := hf.bd
    have ht := trnS_lt hf bb
    refine turned5_main hf mode ba bb hba hbb hT hF hx hy _ rfl (by omega) rfl (addI_comm P M E H low mode bb ba b2 a2) rfl (mulI_comm P M E H low mode bb ba b2 a2) ?_ rfl
    unfold subI
    rw [b2, decide_eq_true b1]
    rfl
  · exact turned5_bad bits mode ba bb h1 h2 h3 hT hF
theorem one5_bad (bits : Int) (mode : Int) (ba bb : Nat) (h1 : bits ≠ 16) (h2 : bits ≠ 32) (h3 : bits ≠ 64) {w : World} (hT : Tab w) (hF : Frm w) :
    Calls Tryd.prog 4 #[.int .i64 bits, .int .i64 mode, .int .u64 (ba : Int), .int .u64 (bb : Int)] w fun e w' => e = .returned (.bool true) ∧ Below w.heap.size w w' := by
  go_enter Tryd.func4, Tryd.ntmps4
  go_wp2_with fail
  refine (awake5_any hT hF).mono ?_
  rintro en w1 ⟨rfl, b⟩
  replace hT := hT.on b
  replace hF := hF.on b
  have BW := b
  clear b
  go_wp2_with fail
  refine (of_bad bits h1 h2 h3 _ hF).mono ?_
  rintro en w2 ⟨rfl, b⟩
  replace hT := hT.on b
  replace hF := hF.on b
  replace BW := Below.step BW b
  clear b
  go_wp2_with fail
  go_ret
  exact ⟨rfl, below_k BW _⟩
set_option maxHeartbeats 4000000 in
set_option maxRecDepth 100000 in
theorem one5_main {B P W M E H : Nat} {low : Int} (hf : Fm B P W M E H low) (mode : Int) (ba bb : Nat) (hba : ba < 18446744073709551616) (hbb : bb < 18446744073709551616) {w : World} (hT : Tab w) (hF : Frm w) (bo bz : Nat) (hbo : bo < 18446744073709551616) (hbz : bz < 18446744073709551616) (hp : putS P M E H low ⟨false, 1, 0⟩ = (bo, 0)) (na nb ng : Bool) (hna : decide (ba / H % 2 = 1) = na) (hnb : decide (bb / H % 2 = 1) = nb) (d9 : (na == nb) = ng) (hz : sgn H (!ng) 0 = bz) {v1 v2 : Nat} {f1 f2 e1 e2 : Int} (r1 : addI P M E H low mode ba bb = (v1, f1, e1)) (r2 : fmaI P M E H low mode ba bo bb = (v1, f1, e1)) (r3 : mulI P M E H low mode ba bb = (v2, f2, e2)) (r4 : fmaI P M E H low mode ba bb bz = (v2, f2, e2)) :
    Calls Tryd.prog 4 #[.int .i64 (B : Int), .int .i64 mode, .int .u64 (ba : Int), .int .u64 (bb : Int)] w fun e w' => e = .returned (.bool true) ∧ Below w.heap.size w w' := by
  have H1 := Lib.hid r1
  have H2 := Lib.hid r2
  have H3 := Lib.hid r3
  have H4 := Lib.hid r4
  have HO := Lib.hid ev_1
  have HP := Lib.hid hp
  have HNA := Lib.hid hna
  have HNB := Lib.hid hnb
  have HZ := Lib.hid hz
  clear r1 r2 r3 r4 hp hna hnb hz
  go_enter Tryd.func4, Tryd.ntmps4
  go_wp2_with fail
  refine (awake5_any hT hF).mono ?_
  rintro en w1 ⟨rfl, b⟩
  replace hT := hT.on b
  replace hF := hF.on b
  have BW := b
  clear b
  go_wp2_with fail
  refine (of_fm hf _ hF).mono ?_
  rintro en w2 ⟨rfl, b⟩
  replace hT := hT.on b
  replace hF := hF.on b
  replace BW := Below.step BW b
  clear b
  go_upto_region 4 with fail
  obtain ⟨w3, e_w3⟩ : ∃ w', w2.alloc (.cells #[.int .i64 (B : Int), .int .i64 (P : Int), .int .i64 (W : Int)] 25) = w' := ⟨_, rfl⟩
  have b : Below w2.heap.size w2 w3 := e_w3 ▸ below_lit _ _
  have hs_w3 : w3.heap.size = w2.heap.size + 1 := e_w3 ▸ size_lit w2 _ rfl
  have zf : FB w3 w2.heap.size 25 (B : Int) (P : Int) (W : Int) := e_w3 ▸ FB.made_k w2 rfl 25 _ _ _
  rw [e_w3]
  clear e_w3
  replace hT := hT.on b
  replace hF := hF.on b
  replace BW := Below.step BW b
  clear b
  clear hs_w3
  clear hF
  obtain ⟨zfc0, zfc1, zfc2, zff0, zff1, zff2, zfl⟩ := zf.cells
  go_wp2_with fail
  clear zfc0 zfc1 zfc2 zff0 zff1 zff2 zfl
  replace hT := hT.on ((Below.refl _ _).drew : Below w3.heap.size w3 w3.drew)
  replace zf := zf.on ((Below.refl _ _).drew : Below w3.heap.size w3 w3.drew)
  replace BW := Lib.hid (Below.step BW ((Below.refl _ _).drew : Below w3.heap.size w3 w3.drew))
  go_region_held3 (fun w' => w'.cell? ⟨w2.heap.size, 0, none⟩ = some (.int .i64 (B : Int)) ∧ w'.cell? ⟨w2.heap.size, 1, none⟩ = some (.int .i64 (P : Int)) ∧ w'.cell? ⟨w2.heap.size, 2, none⟩ = some (.int .i64 (W : Int)))
    ((first | (with_reducible exact ⟨zf.cells.1, zf.cells.2.1, zf.cells.2.2.1⟩)))
    (first
      | (go_at_call 19
         (with_reducible refine (dof_as 1 (by omega) (by omega) hT HO.out).mono ?_)
         rintro en w4 ⟨V_r, v_r, rfl, r, b⟩
         replace hT := hT.on b
         replace zf := zf.on b
         replace BW := Lib.hid (Below.step BW.out b)
         have lr := res_n_le r (k := 128) (by decide)
         clear b)
      | (go_at_call 18
         (with_reducible refine (put_as hf (r.arg (by omega)) (by omega) hT HP.out).mono ?_)
         rintro en w5 ⟨rfl, b⟩
         replace hT := hT.on b
         replace zf := zf.on b
         first | (revert r; intro r; replace r := r.on b) | skip
         replace BW := Lib.hid (Below.step BW.out b)
         clear b))
  all_goals replace BW := BW.out
  obtain ⟨zfc0, zfc1, zfc2, zff0, zff1, zff2, zfl⟩ := zf.cells
  go_wp2_with fail
  refine (add_as hf mode ba bb hba hbb hT H1.out).mono ?_
  rintro en w6 ⟨rfl, b⟩
  clear zfc0 zfc1 zfc2 zff0 zff1 zff2 zfl
  replace hT := hT.on b
  replace zf := zf.on b
  replace r := r.on b
  replace BW := Below.step BW b
  clear b
  obtain ⟨zfc0, zfc1, zfc2, zff0, zff1, zff2, zfl⟩ := zf.cells
  go_wp2_with fail
  refine (fma_as hf mode ba bo bb hba hbo hbb hT H2.out).mono ?_
  rintro en w7 ⟨rfl, b⟩
  clear zfc0 zfc1 zfc2 zff0 zff1 zff2 zfl
  replace hT := hT.on b
  replace zf := zf.on b
  replace r := r.on b
  replace BW := Below.step BW b
  clear b
  obtain ⟨zfc0, zfc1, zfc2, zff0, zff1, zff2, zfl⟩ := zf.cells
  go_wp2_with fail
  refine (mul_as hf mode ba bb hba hbb hT H3.out).mono ?_
  rintro en w8 ⟨rfl, b⟩
  clear zfc0 zfc1 zfc2 zff0 zff1 zff2 zfl
  replace hT := hT.on b
  replace zf := zf.on b
  replace r := r.on b
  replace BW := Below.step BW b
  clear b
  obtain ⟨zfc0, zfc1, zfc2, zff0, zff1, zff2, zfl⟩ := zf.cells
  go_wp2_with fail
  clear zfc0 zfc1 zfc2 zff0 zff1 zff2 zfl
  replace hT := hT.on ((Below.refl _ _).drew : Below w8.heap.size w8 w8.drew)
  replace zf := zf.on ((Below.refl _ _).drew : Below w8.heap.size w8 w8.drew)
  replace r := r.on ((Below.refl _ _).drew : Below w8.heap.size w8 w8.drew)
  replace BW := Lib.hid (Below.step BW ((Below.refl _ _).drew : Below w8.heap.size w8 w8.drew))
  go_region_held3 (fun w' => w'.cell? ⟨w2.heap.size, 0, none⟩ = some (.int .i64 (B : Int)) ∧ w'.cell? ⟨w2.heap.size, 1, none⟩ = some (.int .i64 (P : Int)) ∧ w'.cell? ⟨w2.heap.size, 2, none⟩ = some (.int .i64 (W : Int)))
    ((first | (with_reducible exact ⟨zf.cells.1, zf.cells.2.1, zf.cells.2.2.1⟩)))
    (first
      | (go_at_call 22
         (with_reducible refine (fneg_as hf ba hba na HNA.out _).mono ?_)
         rintro en w9 ⟨rfl, b⟩
         replace hT := hT.on b
         replace zf := zf.on b
         replace r := r.on b
         replace BW := Lib.hid (Below.step BW.out b)
         clear b)
      | (go_at_call 22
         (with_reducible refine (fneg_as hf bb hbb nb HNB.out _).mono ?_)
         rintro en w10 ⟨rfl, b⟩
         replace hT := hT.on b
         replace zf := zf.on b
         replace r := r.on b
         replace BW := Lib.hid (Below.step BW.out b)
         clear b)
      | (go_at_call 21
         (with_reducible refine (nought_as hf _ bz HZ.out _).mono ?_)
         rintro en w11 ⟨rfl, b⟩
         replace hT := hT.on b
         replace zf := zf.on b
         replace r := r.on b
         replace BW := Lib.hid (Below.step BW.out b)
         clear b)
      | (go_at_call 20
         (with_reducible refine (fma_as hf mode ba bb bz hba hbb hbz hT H4.out).mono ?_)
         rintro en w12 ⟨rfl, b⟩
         replace hT := hT.on b
         replace zf := zf.on b
         replace r := r.on b
         replace BW := Lib.hid (Below.step BW.out b)
         clear b))
  all_goals replace BW := BW.out
  all_goals (go_wp2_with fail; go_ret; exact ⟨rfl, BW⟩)
theorem one5_walk (bits : Int) (mode : Int) (ba : Nat) (hba : ba < 18446744073709551616) (bb : Nat) (hbb : bb < 18446744073709551616) {w : World} (hT : Tab w) (hF : Frm w) :
    Calls Tryd.prog 4 #[.int .i64 bits, .int .i64 mode, .int .u64 (ba : Int), .int .u64 (bb : Int)] w fun e w' => e = .returned (.bool true) ∧ Below w.heap.size w w' := by
  rcases fm_of bits with ⟨B, P, W, M, E, H, low, hf, rfl⟩ | ⟨h1, h2, h3⟩
  · obtain ⟨k1, k2, k3, k4, k5⟩ := one_is hf
    have hbd := hf.bd
    obtain ⟨z1, z2, z3, z4⟩ := zero_is hf (ngB H ba != ngB H bb)
    exact one5_main hf mode ba bb hba hbb hT hF (oneS P M low) (sgn H (ngB H ba != ngB H bb) 0) (by omega) (by omega) k5 _ _ _ rfl rfl rfl rfl rfl (fma_one hf mode ba bb) rfl (fma_zero hf mode ba bb)
  · exact one5_bad bits mode ba bb h1 h2 h3 hT hF
theorem unit5_bad (bits : Int) (mode : Int) (ba : Nat) (h1 : bits ≠ 16) (h2 : bits ≠ 32) (h3 : bits ≠ 64) {w : World} (hT : Tab w) (hF : Frm w) :
    Calls Tryd.prog 9 #[.int .i64 bits, .int .i64 mode, .int .u64 (ba : Int)] w fun e w' => e = .returned (.bool true) ∧ Below w.heap.size w w' := by
  go_enter Tryd.func9, Tryd.ntmps9
  go_wp2_with fail
  refine (awake5_any hT hF).mono ?_
  rintro en w1 ⟨rfl, b⟩
  replace hT := hT.on b
  replace hF := hF.on b
  have BW := b
  clear b
  go_wp2_with fail
  refine (of_bad bits h1 h2 h3 _ hF).mono ?_
  rintro en w2 ⟨rfl, b⟩
  replace hT := hT.on b
  replace hF := hF.on b
  replace BW := Below.step BW b
  clear b
  go_wp2_with fail
  go_ret
  exact ⟨rfl, below_k BW _⟩
theorem unit5_na {B P W M E H : Nat} {low : Int} (hf : Fm B P W M E H low) (mode : Int) (ba : Nat) (hba : ba < 18446744073709551616) {w : World} (hT : Tab w) (hF : Frm w) (ha : numB M E H ba = false) :
    Calls Tryd.prog 9 #[.int .i64 (B : Int), .int .i64 mode, .int .u64 (ba : Int)] w fun e w' => e = .returned (.bool true) ∧ Below w.heap.size w w' := by
  have HA := Lib.hid (fun V => number_as hf ba hba false ha V)
  go_enter Tryd.func9, Tryd.ntmps9
  go_wp2_with fail
  refine (awake5_any hT hF).mono ?_
  rintro en w1 ⟨rfl, b⟩
  replace hT := hT.on b
  replace hF := hF.on b
  have BW := b
  clear b
  go_wp2_with fail
  refine (of_fm hf _ hF).mono ?_
  rintro en w2 ⟨rfl, b⟩
  replace hT := hT.on b
  replace hF := hF.on b
  replace BW := Below.step BW b
  clear b
  go_upto_region 4 with fail
  obtain ⟨w3, e_w3⟩ : ∃ w', w2.alloc (.cells #[.int .i64 (B : Int), .int .i64 (P : Int), .int .i64 (W : Int)] 25) = w' := ⟨_, rfl⟩
  have b : Below w2.heap.size w2 w3 := e_w3 ▸ below_lit _ _
  have hs_w3 : w3.heap.size = w2.heap.size + 1 := e_w3 ▸ size_lit w2 _ rfl
  have zf : FB w3 w2.heap.size 25 (B : Int) (P : Int) (W : Int) := e_w3 ▸ FB.made_k w2 rfl 25 _ _ _
  rw [e_w3]
  clear e_w3
  replace hT := hT.on b
  replace hF := hF.on b
  replace BW := Below.step BW b
  clear b
  clear hs_w3
  clear hF
  obtain ⟨zfc0, zfc1, zfc2, zff0, zff1, zff2, zfl⟩ := zf.cells
  go_wp2_with fail
  refine (HA.out _).mono ?_
  rintro en w4 ⟨rfl, b⟩
  clear zfc0 zfc1 zfc2 zff0 zff1 zff2 zfl
  replace hT := hT.on b
  replace zf := zf.on b
  replace BW := Below.step BW b
  clear b
  obtain ⟨zfc0, zfc1, zfc2, zff0, zff1, zff2, zfl⟩ := zf.cells
  go_wp2_with fail
  go_ret
  exact ⟨rfl, BW⟩
theorem unit5_m1 {B P W M E H : Nat} {low : Int} (hf : Fm B P W M E H low) (mode : Int) (ba : Nat) (hba : ba < 18446744073709551616) {w : World} (hT : Tab w) (hF : Frm w) (ha : numB M E H ba = true) (m1 : decide (mode < 0) = true) :
    Calls Tryd.prog 9 #[.int .i64 (B : Int), .int .i64 mode, .int .u64 (ba : Int)] w fun e w' => e = .returned (.bool true) ∧ Below w.heap.size w w' := by
  have HA := Lib.hid (fun V => number_as hf ba hba true ha V)
  go_enter Tryd.func9, Tryd.ntmps9
  go_wp2_with fail
  refine (awake5_any hT hF).mono ?_
  rintro en w1 ⟨rfl, b⟩
  replace hT := hT.on b
  replace hF := hF.on b
  have BW := b
  clear b
  go_wp2_with fail
  refine (of_fm hf _ hF).mono ?_
  rintro en w2 ⟨rfl, b⟩
  replace hT := hT.on b
  replace hF := hF.on b
  replace BW := Below.step BW b
  clear b
  go_upto_region 4 with fail
  obtain ⟨w3, e_w3⟩ : ∃ w', w2.alloc (.cells #[.int .i64 (B : Int), .int .i64 (P : Int), .int .i64 (W : Int)] 25) = w' := ⟨_, rfl⟩
  have b : Below w2.heap.size w2 w3 := e_w3 ▸ below_lit _ _
  have hs_w3 : w3.heap.size = w2.heap.size + 1 := e_w3 ▸ size_lit w2 _ rfl
  have zf : FB w3 w2.heap.size 25 (B : Int) (P : Int) (W : Int) := e_w3 ▸ FB.made_k w2 rfl 25 _ _ _
  rw [e_w3]
  clear e_w3
  replace hT := hT.on b
  replace hF := hF.on b
  replace BW := Below.step BW b
  clear b
  clear hs_w3
  clear hF
  obtain ⟨zfc0, zfc1, zfc2, zff0, zff1, zff2, zfl⟩ := zf.cells
  go_wp2_with fail
  refine (HA.out _).mono ?_
  rintro en w4 ⟨rfl, b⟩
  clear zfc0 zfc1 zfc2 zff0 zff1 zff2 zfl
  replace hT := hT.on b
  replace zf := zf.on b
  replace BW := Below.step BW b
  clear b
  obtain ⟨zfc0, zfc1, zfc2, zff0, zff1, zff2, zfl⟩ := zf.cells
  go_wp2_with fail
  go_ret
  exact ⟨rfl, BW⟩
theorem unit5_m2 {B P W M E H : Nat} {low : Int} (hf : Fm B P W M E H low) (mode : Int) (ba : Nat) (hba : ba < 18446744073709551616) {w : World} (hT : Tab w) (hF : Frm w) (ha : numB M E H ba = true) (m1 : decide (mode < 0) = false) (m2 : decide (5 ≤ mode) = true) :
    Calls Tryd.prog 9 #[.int .i64 (B : Int), .int .i64 mode, .int .u64 (ba : Int)] w fun e w' => e = .returned (.bool true) ∧ Below w.heap.size w w' := by
  have HA := Lib.hid (fun V => number_as hf ba hba true ha V)
  go_enter Tryd.func9, Tryd.ntmps9
  go_wp2_with fail
  refine (awake5_any hT hF).mono ?_
  rintro en w1 ⟨rfl, b⟩
  replace hT := hT.on b
  replace hF := hF.on b
  have BW := b
  clear b
  go_wp2_with fail
  refine (of_fm hf _ hF).mono ?_
  rintro en w2 ⟨rfl, b⟩
  replace hT := hT.on b
  replace hF := hF.on b
  replace BW := Below.step BW b
  clear b
  go_upto_region 4 with fail
  obtain ⟨w3, e_w3⟩ : ∃ w', w2.alloc (.cells #[.int .i64 (B : Int), .int .i64 (P : Int), .int .i64 (W : Int)] 25) = w' := ⟨_, rfl⟩
  have b : Below w2.heap.size w2 w3 := e_w3 ▸ below_lit _ _
  have hs_w3 : w3.heap.size = w2.heap.size + 1 := e_w3 ▸ size_lit w2 _ rfl
  have zf : FB w3 w2.heap.size 25 (B : Int) (P : Int) (W : Int) := e_w3 ▸ FB.made_k w2 rfl 25 _ _ _
  rw [e_w3]
  clear e_w3
  replace hT := hT.on b
  replace hF := hF.on b
  replace BW := Below.step BW b
  clear b
  clear hs_w3
  clear hF
  obtain ⟨zfc0, zfc1, zfc2, zff0, zff1, zff2, zfl⟩ := zf.cells
  go_wp2_with fail
  refine (HA.out _).mono ?_
  rintro en w4 ⟨rfl, b⟩
  clear zfc0 zfc1 zfc2 zff0 zff1 zff2 zfl
  replace hT := hT.on b
  replace zf := zf.on b
  replace BW := Below.step BW b
  clear b
  obtain ⟨zfc0, zfc1, zfc2, zff0, zff1, zff2, zfl⟩ := zf.cells
  go_wp2_with fail
  go_ret
  exact ⟨rfl, BW⟩
set_option maxHeartbeats 4000000 in
set_option maxRecDepth 100000 in
theorem unit5_inf {B P W M E H : Nat} {low : Int} (hf : Fm B P W M E H low) (mode : Int) (ba : Nat) (hba : ba < 18446744073709551616) {w : World} (hT : Tab w) (hF : Frm w) (ha : numB M E H ba = true) (m1 : decide (mode < 0) = false) (m2 : decide (5 ≤ mode) = false) (bo bz : Nat) (hbo : bo < 18446744073709551616) (hbz : bz < 18446744073709551616) (hp : putS P M E H low ⟨false, 1, 0⟩ = (bo, 0)) (na : Bool) (hna : decide (ba / H % 2 = 1) = na) (hz : sgn H na 0 = bz) (r1 : mulI P M E H low mode ba bo = (ba, 0, 0)) (r2 : addI P M E H low mode ba bz = (ba, 0, 0)) {q : Int} (hq : clsS M E ba = q) {vz : Nat} (d3 : (q == 3) = true) (r3 : subI P M E H low mode ba ba = (vz, 16, 0)) (hu : M * E + M / 2 = vz) :
    Calls Tryd.prog 9 #[.int .i64 (B : Int), .int .i64 mode, .int .u64 (ba : Int)] w fun e w' => e = .returned (.bool true) ∧ Below w.heap.size w w' := by
  have HA := Lib.hid (fun V => number_as hf ba hba true ha V)
  have H1 := Lib.hid r1
  have H2 := Lib.hid r2
  have H3 := Lib.hid r3
  have HO := Lib.hid ev_1
  have HP := Lib.hid hp
  have HNA := Lib.hid hna
  have HZ := Lib.hid hz
  have HC := Lib.hid (fun V => class_as hf ba q hba hq V)
  have HU := Lib.hid (fun V => fnone_as hf vz hu V)
  clear ha r1 r2 r3 hp hna hz hq hu
  go_enter Tryd.func9, Tryd.ntmps9
  go_wp2_with fail
  refine (awake5_any hT hF).mono ?_
  rintro en w1 ⟨rfl, b⟩
  replace hT := hT.on b
  replace hF := hF.on b
  have BW := b
  clear b
  go_wp2_with fail
  refine (of_fm hf _ hF).mono ?_
  rintro en w2 ⟨rfl, b⟩
  replace hT := hT.on b
  replace hF := hF.on b
  replace BW := Below.step BW b
  clear b
  go_upto_region 4 with fail
  obtain ⟨w3, e_w3⟩ : ∃ w', w2.alloc (.cells #[.int .i64 (B : Int), .int .i64 (P : Int), .int .i64 (W : Int)] 25) = w' := ⟨_, rfl⟩
  have b : Below w2.heap.size w2 w3 := e_w3 ▸ below_lit _ _
  have hs_w3 : w3.heap.size = w2.heap.size + 1 := e_w3 ▸ size_lit w2 _ rfl
  have zf : FB w3 w2.heap.size 25 (B : Int) (P : Int) (W : Int) := e_w3 ▸ FB.made_k w2 rfl 25 _ _ _
  rw [e_w3]
  clear e_w3
  replace hT := hT.on b
  replace hF := hF.on b
  replace BW := Below.step BW b
  clear b
  clear hs_w3
  clear hF
  obtain ⟨zfc0, zfc1, zfc2, zff0, zff1, zff2, zfl⟩ := zf.cells
  go_wp2_with fail
  refine (HA.out _).mono ?_
  rintro en w4 ⟨rfl, b⟩
  clear zfc0 zfc1 zfc2 zff0 zff1 zff2 zfl
  replace hT := hT.on b
  replace zf := zf.on b
  replace BW := Below.step BW b
  clear b
  obtain ⟨zfc0, zfc1, zfc2, zff0, zff1, zff2, zfl⟩ := zf.cells
  go_wp2_with fail
  clear zfc0 zfc1 zfc2 zff0 zff1 zff2 zfl
  replace hT := hT.on ((Below.refl _ _).drew : Below w4.heap.size w4 w4.drew)
  replace zf := zf.on ((Below.refl _ _).drew : Below w4.heap.size w4 w4.drew)
  replace BW := Lib.hid (Below.step BW ((Below.refl _ _).drew : Below w4.heap.size w4 w4.drew))
  go_region_held3 (fun w' => w'.cell? ⟨w2.heap.size, 0, none⟩ = some (.int .i64 (B : Int)) ∧ w'.cell? ⟨w2.heap.size, 1, none⟩ = some (.int .i64 (P : Int)) ∧ w'.cell? ⟨w2.heap.size, 2, none⟩ = some (.int .i64 (W : Int)))
    ((first | (with_reducible exact ⟨zf.cells.1, zf.cells.2.1, zf.cells.2.2.1⟩)))
    (first
      | (go_at_call 19
         (with_reducible refine (dof_as 1 (by omega) (by omega) hT HO.out).mono ?_)
         rintro en w5 ⟨V_r, v_r, rfl, r, b⟩
         replace hT := hT.on b
         replace zf := zf.on b
         replace BW := Lib.hid (Below.step BW.out b)
         have lr := res_n_le r (k := 128) (by decide)
         clear b)
      | (go_at_call 18
         (with_reducible refine (put_as hf (r.arg (by omega)) (by omega) hT HP.out).mono ?_)
         rintro en w6 ⟨rfl, b⟩
         replace hT := hT.on b
         replace zf := zf.on b
         first | (revert r; intro r; replace r := r.on b) | skip
         replace BW := Lib.hid (Below.step BW.out b)
         clear b))
  all_goals replace BW := BW.out
  obtain ⟨zfc0, zfc1, zfc2, zff0, zff1, zff2, zfl⟩ := zf.cells
  go_wp2_with fail
  refine (mul_as hf mode ba bo hba hbo hT H1.out).mono ?_
  rintro en w7 ⟨rfl, b⟩
  clear zfc0 zfc1 zfc2 zff0 zff1 zff2 zfl
  replace hT := hT.on b
  replace zf := zf.on b
  replace r := r.on b
  replace BW := Below.step BW b
  clear b
  obtain ⟨zfc0, zfc1, zfc2, zff0, zff1, zff2, zfl⟩ := zf.cells
  go_wp2_with fail
  clear zfc0 zfc1 zfc2 zff0 zff1 zff2 zfl
  replace hT := hT.on ((Below.refl _ _).drew : Below w7.heap.size w7 w7.drew)
  replace zf := zf.on ((Below.refl _ _).drew : Below w7.heap.size w7 w7.drew)
  replace r := r.on ((Below.refl _ _).drew : Below w7.heap.size w7 w7.drew)
  replace BW := Lib.hid (Below.step BW ((Below.refl _ _).drew : Below w7.heap.size w7 w7.drew))
  go_region_held3 (fun w' => w'.cell? ⟨w2.heap.size, 0, none⟩ = some (.int .i64 (B : Int)) ∧ w'.cell? ⟨w2.heap.size, 1, none⟩ = some (.int .i64 (P : Int)) ∧ w'.cell? ⟨w2.heap.size, 2, none⟩ = some (.int .i64 (W : Int)))
    ((first | (with_reducible exact ⟨zf.cells.1, zf.cells.2.1, zf.cells.2.2.1⟩)))
    (first
      | (go_at_call 22
         (with_reducible refine (fneg_as hf ba hba na HNA.out _).mono ?_)
         rintro en w8 ⟨rfl, b⟩
         replace hT := hT.on b
         replace zf := zf.on b
         replace r := r.on b
         replace BW := Lib.hid (Below.step BW.out b)
         clear b)
      | (go_at_call 21
         (with_reducible refine (nought_as hf _ bz HZ.out _).mono ?_)
         rintro en w9 ⟨rfl, b⟩
         replace hT := hT.on b
         replace zf := zf.on b
         replace r := r.on b
         replace BW := Lib.hid (Below.step BW.out b)
         clear b)
      | (go_at_call 14
         (with_reducible refine (add_as hf mode ba bz hba hbz hT H2.out).mono ?_)
         rintro en w10 ⟨rfl, b⟩
         replace hT := hT.on b
         replace zf := zf.on b
         replace r := r.on b
         replace BW := Lib.hid (Below.step BW.out b)
         clear b))
  all_goals replace BW := BW.out
  obtain ⟨zfc0, zfc1, zfc2, zff0, zff1, zff2, zfl⟩ := zf.cells
  go_wp2_with fail
  refine (sub_as hf mode ba ba hba hba hT H3.out).mono ?_
  rintro en w11 ⟨rfl, b⟩
  clear zfc0 zfc1 zfc2 zff0 zff1 zff2 zfl
  replace hT := hT.on b
  replace zf := zf.on b
  replace r := r.on b
  replace BW := Below.step BW b
  clear b
  obtain ⟨zfc0, zfc1, zfc2, zff0, zff1, zff2, zfl⟩ := zf.cells
  go_wp2_with fail
  refine (HC.out _).mono ?_
  rintro en w12 ⟨rfl, b⟩
  clear zfc0 zfc1 zfc2 zff0 zff1 zff2 zfl
  replace hT := hT.on b
  replace zf := zf.on b
  replace r := r.on b
  replace BW := Below.step BW b
  clear b
  obtain ⟨zfc0, zfc1, zfc2, zff0, zff1, zff2, zfl⟩ := zf.cells
  go_wp2_with fail
  refine (HU.out _).mono ?_
  rintro en w13 ⟨rfl, b⟩
  clear zfc0 zfc1 zfc2 zff0 zff1 zff2 zfl
  replace hT := hT.on b
  replace zf := zf.on b
  replace r := r.on b
  replace BW := Below.step BW b
  clear b
  obtain ⟨zfc0, zfc1, zfc2, zff0, zff1, zff2, zfl⟩ := zf.cells
  go_wp2_with fail
  go_ret
  exact ⟨rfl, BW⟩
set_option maxHeartbeats 4000000 in
set_option maxRecDepth 100000 in
theorem unit5_fin {B P W M E H : Nat} {low : Int} (hf : Fm B P W M E H low) (mode : Int) (ba : Nat) (hba : ba < 18446744073709551616) {w : World} (hT : Tab w) (hF : Frm w) (ha : numB M E H ba = true) (m1 : decide (mode < 0) = false) (m2 : decide (5 ≤ mode) = false) (bo bz : Nat) (hbo : bo < 18446744073709551616) (hbz : bz < 18446744073709551616) (hp : putS P M E H low ⟨false, 1, 0⟩ = (bo, 0)) (na : Bool) (hna : decide (ba / H % 2 = 1) = na) (hz : sgn H na 0 = bz) (r1 : mulI P M E H low mode ba bo = (ba, 0, 0)) (r2 : addI P M E H low mode ba bz = (ba, 0, 0)) {q : Int} (hq : clsS M E ba = q) {vz : Nat} (d3 : (q == 3) = false) (md : Bool) (d4 : (mode == 2) = md) (r3 : subI P M E H low mode ba ba = (vz, 0, 0)) (hu : sgn H md 0 = vz) :
    Calls Tryd.prog 9 #[.int .i64 (B : Int), .int .i64 mode, .int .u64 (ba : Int)] w fun e w' => e = .returned (.bool true) ∧ Below w.heap.size w w' := by
  have HA := Lib.hid (fun V => number_as hf ba hba true ha V)
  have H1 := Lib.hid r1
  have H2 := Lib.hid r2
  have H3 := Lib.hid r3
  have HO := Lib.hid ev_1
  have HP := Lib.hid hp
  have HNA := Lib.hid hna
  have HZ := Lib.hid hz
  have HC := Lib.hid (fun V => class_as hf ba q hba hq V)
  have HU := Lib.hid (fun V => nought_as hf md vz hu V)
  clear ha r1 r2 r3 hp hna hz hq hu
  go_enter Tryd.func9, Tryd.ntmps9
  go_wp2_with fail
  refine (awake5_any hT hF).mono ?_
  rintro en w1 ⟨rfl, b⟩
  replace hT := hT.on b
  replace hF := hF.on b
  have BW := b
  clear b
  go_wp2_with fail
  refine (of_fm hf _ hF).mono ?_
  rintro en w2 ⟨rfl, b⟩
  replace hT := hT.on b
  replace hF := hF.on b
  replace BW := Below.step BW b
  clear b
  go_upto_region 4 with fail
  obtain ⟨w3, e_w3⟩ : ∃ w', w2.alloc (.cells #[.int .i64 (B : Int), .int .i64 (P : Int), .int .i64 (W : Int)] 25) = w' := ⟨_, rfl⟩
  have b : Below w2.heap.size w2 w3 := e_w3 ▸ below_lit _ _
  have hs_w3 : w3.heap.size = w2.heap.size + 1 := e_w3 ▸ size_lit w2 _ rfl
  have zf : FB w3 w2.heap.size 25 (B : Int) (P : Int) (W : Int) := e_w3 ▸ FB.made_k w2 rfl 25 _ _ _
  rw [e_w3]
  clear e_w3
  replace hT := hT.on b
  replace hF := hF.on b
  replace BW := Below.step BW b
  clear b
  clear hs_w3
  clear hF
  obtain ⟨zfc0, zfc1, zfc2, zff0, zff1, zff2, zfl⟩ := zf.cells
  go_wp2_with fail
  refine (HA.out _).mono ?_
  rintro en w4 ⟨rfl, b⟩
  clear zfc0 zfc1 zfc2 zff0 zff1 zff2 zfl
  replace hT := hT.on b
  replace zf := zf.on b
  replace BW := Below.step BW b
  clear b
  obtain ⟨zfc0, zfc1, zfc2, zff0, zff1, zff2, zfl⟩ := zf.cells
  go_wp2_with fail
  clear zfc0 zfc1 zfc2 zff0 zff1 zff2 zfl
  replace hT := hT.on ((Below.refl _ _).drew : Below w4.heap.size w4 w4.drew)
  replace zf := zf.on ((Below.refl _ _).drew : Below w4.heap.size w4 w4.drew)
  replace BW := Lib.hid (Below.step BW ((Below.refl _ _).drew : Below w4.heap.size w4 w4.drew))
  go_region_held3 (fun w' => w'.cell? ⟨w2.heap.size, 0, none⟩ = some (.int .i64 (B : Int)) ∧ w'.cell? ⟨w2.heap.size, 1, none⟩ = some (.int .i64 (P : Int)) ∧ w'.cell? ⟨w2.heap.size, 2, none⟩ = some (.int .i64 (W : Int)))
    ((first | (with_reducible exact ⟨zf.cells.1, zf.cells.2.1, zf.cells.2.2.1⟩)))
    (first
      | (go_at_call 19
         (with_reducible refine (dof_as 1 (by omega) (by omega) hT HO.out).mono ?_)
         rintro en w5 ⟨V_r, v_r, rfl, r, b⟩
         replace hT := hT.on b
         replace zf := zf.on b
         replace BW := Lib.hid (Below.step BW.out b)
         have lr := res_n_le r (k := 128) (by decide)
         clear b)
      | (go_at_call 18
         (with_reducible refine (put_as hf (r.arg (by omega)) (by omega) hT HP.out).mono ?_)
         rintro en w6 ⟨rfl, b⟩
         replace hT := hT.on b
         replace zf := zf.on b
         first | (revert r; intro r; replace r := r.on b) | skip
         replace BW := Lib.hid (Below.step BW.out b)
         clear b))
  all_goals replace BW := BW.out
  obtain ⟨zfc0, zfc1, zfc2, zff0, zff1, zff2, zfl⟩ := zf.cells
  go_wp2_with fail
  refine (mul_as hf mode ba bo hba hbo hT H1.out).mono ?_
  rintro en w7 ⟨rfl, b⟩
  clear zfc0 zfc1 zfc2 zff0 zff1 zff2 zfl
  replace hT := hT.on b
  replace zf := zf.on b
  replace r := r.on b
  replace BW := Below.step BW b
  clear b
  obtain ⟨zfc0, zfc1, zfc2, zff0, zff1, zff2, zfl⟩ := zf.cells
  go_wp2_with fail
  clear zfc0 zfc1 zfc2 zff0 zff1 zff2 zfl
  replace hT := hT.on ((Below.refl _ _).drew : Below w7.heap.size w7 w7.drew)
  replace zf := zf.on ((Below.refl _ _).drew : Below w7.heap.size w7 w7.drew)
  replace r := r.on ((Below.refl _ _).drew : Below w7.heap.size w7 w7.drew)
  replace BW := Lib.hid (Below.step BW ((Below.refl _ _).drew : Below w7.heap.size w7 w7.drew))
  go_region_held3 (fun w' => w'.cell? ⟨w2.heap.size, 0, none⟩ = some (.int .i64 (B : Int)) ∧ w'.cell? ⟨w2.heap.size, 1, none⟩ = some (.int .i64 (P : Int)) ∧ w'.cell? ⟨w2.heap.size, 2, none⟩ = some (.int .i64 (W : Int)))
    ((first | (with_reducible exact ⟨zf.cells.1, zf.cells.2.1, zf.cells.2.2.1⟩)))
    (first
      | (go_at_call 22
         (with_reducible refine (fneg_as hf ba hba na HNA.out _).mono ?_)
         rintro en w8 ⟨rfl, b⟩
         replace hT := hT.on b
         replace zf := zf.on b
         replace r := r.on b
         replace BW := Lib.hid (Below.step BW.out b)
         clear b)
      | (go_at_call 21
         (with_reducible refine (nought_as hf _ bz HZ.out _).mono ?_)
         rintro en w9 ⟨rfl, b⟩
         replace hT := hT.on b
         replace zf := zf.on b
         replace r := r.on b
         replace BW := Lib.hid (Below.step BW.out b)
         clear b)
      | (go_at_call 14
         (with_reducible refine (add_as hf mode ba bz hba hbz hT H2.out).mono ?_)
         rintro en w10 ⟨rfl, b⟩
         replace hT := hT.on b
         replace zf := zf.on b
         replace r := r.on b
         replace BW := Lib.hid (Below.step BW.out b)
         clear b))
  all_goals replace BW := BW.out
  obtain ⟨zfc0, zfc1, zfc2, zff0, zff1, zff2, zfl⟩ := zf.cells
  go_wp2_with fail
  refine (sub_as hf mode ba ba hba hba hT H3.out).mono ?_
  rintro en w11 ⟨rfl, b⟩
  clear zfc0 zfc1 zfc2 zff0 zff1 zff2 zfl
  replace hT := hT.on b
  replace zf := zf.on b
  replace r := r.on b
  replace BW := Below.step BW b
  clear b
  obtain ⟨zfc0, zfc1, zfc2, zff0, zff1, zff2, zfl⟩ := zf.cells
  go_wp2_with fail
  refine (HC.out _).mono ?_
  rintro en w12 ⟨rfl, b⟩
  clear zfc0 zfc1 zfc2 zff0 zff1 zff2 zfl
  replace hT := hT.on b
  replace zf := zf.on b
  replace r := r.on b
  replace BW := Below.step BW b
  clear b
  obtain ⟨zfc0, zfc1, zfc2, zff0, zff1, zff2, zfl⟩ := zf.cells
  go_wp2_with fail
  refine (HU.out _).mono ?_
  rintro en w13 ⟨rfl, b⟩
  clear zfc0 zfc1 zfc2 zff0 zff1 zff2 zfl
  replace hT := hT.on b
  replace zf := zf.on b
  replace r := r.on b
  replace BW := Below.step BW b
  clear b
  obtain ⟨zfc0, zfc1, zfc2, zff0, zff1, zff2, zfl⟩ := zf.cells
  go_wp2_with fail
  go_ret
  exact ⟨rfl, BW⟩
theorem unit5_walk (bits : Int) (mode : Int) (ba : Nat) (hba : ba < 18446744073709551616) {w : World} (hT : Tab w) (hF : Frm w) :
    Calls Tryd.prog 9 #[.int .i64 bits, .int .i64 mode, .int .u64 (ba : Int)] w fun e w' => e = .returned (.bool true) ∧ Below w.heap.size w w' := by
  rcases fm_of bits with ⟨B, P, W, M, E, H, low, hf, rfl⟩ | ⟨h1, h2, h3⟩
  · obtain ⟨x, hx⟩ : ∃ x, numB M E H ba = x := ⟨_, rfl⟩
    cases x
    · exact unit5_na hf mode ba hba hT hF hx
    by_cases m1 : mode < 0
    · exact unit5_m1 hf mode ba hba hT hF hx (decide_eq_true m1)
    by_cases m2 : 5 ≤ mode
    · exact unit5_m2 hf mode ba hba hT hF hx (decide_eq_false m1) (decide_eq_true m2)
    obtain ⟨a1, a2⟩ := numB_iff.1 hx
    obtain ⟨k1, k2, k3, k4, k5⟩ := one_is hf
    have hbd := hf.bd
    obtain ⟨z1, z2, z3, z4⟩ := zero_is hf (ngB H ba)
    have hm : 0 ≤ mode ∧ mode ≤ 4 := by omega
    have hu := unit_sub hf a1 a2 hm
    by_cases hi : clsS M E ba = 3
    · rw [if_pos hi] at hu
      exact unit5_inf hf mode ba hba hT hF hx (decide_eq_false m1) (decide_eq_false m2) (oneS P M low) (sgn H (ngB H ba) 0) (by omega) (by omega) k5 _ rfl rfl (unit_mul hf a1 a2 hm) (unit_add hf a1 a2 hm) rfl (by rw [hi]; rfl) hu rfl
    · rw [if_neg hi] at hu
      exact unit5_fin hf mode ba hba hT hF hx (decide_eq_false m1) (decide_eq_false m2) (oneS P M low) (sgn H (ngB H ba) 0) (by omega) (by omega) k5 _ rfl rfl (unit_mul hf a1 a2 hm) (unit_add hf a1 a2 hm) rfl (by simpa using hi) (decide (mode = 2)) (by rw [Bool.eq_iff_iff]; simp) hu rfl
  · exact unit5_bad bits mode ba h1 h2 h3 hT hF
end Go.Proofs.YtpachoeignpcbaaDoor
