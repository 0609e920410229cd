
/-
  The walk of the law IeeeExact.
-/
import Derived.Test.YtpachoeignpcbaaDoorIi
import Derived.Test.YtpachoeignpcbaaDoorIj
import Derived.LoopN
namespace Go.Proofs.YtpachoeignpcbaaDoor
open Go.RowKit
set_option linter.unusedVariables false

theorem two0 (na : Bool) (A1 : Option Addr) (n1 c1 : Nat) (ea : Int) (nb : Bool) (A2 : Option Addr) (n2 c2 : Nat) (eb : Int) (w : World) : (Instr.index 47 (.agg #[.bool na, .slice A1 n1 c1, .int .i64 ea, .bool nb, .slice A2 n2 c2, .int .i64 eb]) (.int .i64 0)).run Tryd.prog w = .ok (.agg #[.bool na, .slice A1 n1 c1, .int .i64 ea]) w := by kernel_rfl
theorem two1 (na : Bool) (A1 : Option Addr) (n1 c1 : Nat) (ea : Int) (nb : Bool) (A2 : Option Addr) (n2 c2 : Nat) (eb : Int) (w : World) : (Instr.index 47 (.agg #[.bool na, .slice A1 n1 c1, .int .i64 ea, .bool nb, .slice A2 n2 c2, .int .i64 eb]) (.int .i64 1)).run Tryd.prog w = .ok (.agg #[.bool nb, .slice A2 n2 c2, .int .i64 eb]) w := by kernel_rfl
theorem exact5_bad (bits : Int) (mode : Int) (ba bb : Nat) (h1 : bits ≠ 16) (h2 : bits ≠ 32) (h3 : bits ≠ 64) {w : World} (hT : Tab w) (hF : Frm w) :
    Calls Tryd.prog 5 #[.int .i64 bits, .int .i64 mode, .int .u64 (ba : Int), .int .u64 (bb : Int)] w fun e w' => e = .returned (.bool true) ∧ Below w.heap.size w w' := by
  go_enter Tryd.func5, Tryd.ntmps5
  go_wp2_with fail
  refine (awake5_any hT hF).mono ?_
  rintro en w1 ⟨rfl, b⟩
  replace hT := hT.on b
  replace hF := hF.on b
  have BW := b
  clear b
  go_wp2_with fail
  refine (of_bad bits h1 h2 h3 _ hF).mono ?_
  rintro en w2 ⟨rfl, b⟩
  replace hT := hT.on b
  replace hF := hF.on b
  replace BW := Below.step BW b
  clear b
  go_wp2_with fail
  go_ret
  exact ⟨rfl, below_k BW _⟩
theorem exact5_m1 {B P W M E H : Nat} {low : Int} (hf : Fm B P W M E H low) (mode : Int) (ba bb : Nat) (hba : ba < 18446744073709551616) (hbb : bb < 18446744073709551616) {w : World} (hT : Tab w) (hF : Frm w) (m1 : decide (mode < 0) = true) :
    Calls Tryd.prog 5 #[.int .i64 (B : Int), .int .i64 mode, .int .u64 (ba : Int), .int .u64 (bb : Int)] w fun e w' => e = .returned (.bool true) ∧ Below w.heap.size w w' := by
  go_enter Tryd.func5, Tryd.ntmps5
  go_wp2_with fail
  refine (awake5_any hT hF).mono ?_
  rintro en w1 ⟨rfl, b⟩
  replace hT := hT.on b
  replace hF := hF.on b
  have BW := b
  clear b
  go_wp2_with fail
  refine (of_fm hf _ hF).mono ?_
  rintro en w2 ⟨rfl, b⟩
  replace hT := hT.on b
  replace hF := hF.on b
  replace BW := Below.step BW b
  clear b
  go_upto_region 4 with fail
  obtain ⟨w3, e_w3⟩ : ∃ w', w2.alloc (.cells #[.int .i64 (B : Int), .int .i64 (P : Int), .int .i64 (W : Int)] 25) = w' := ⟨_, rfl⟩
  have b : Below w2.heap.size w2 w3 := e_w3 ▸ below_lit _ _
  have hs_w3 : w3.heap.size = w2.heap.size + 1 := e_w3 ▸ size_lit w2 _ rfl
  have zf : FB w3 w2.heap.size 25 (B : Int) (P : Int) (W : Int) := e_w3 ▸ FB.made_k w2 rfl 25 _ _ _
  rw [e_w3]
  clear e_w3
  replace hT := hT.on b
  replace hF := hF.on b
  replace BW := Below.step BW b
  clear b
  clear hs_w3
  clear hF
  obtain ⟨zfc0, zfc1, zfc2, zff0, zff1, zff2, zfl⟩ := zf.cells
  go_wp2_with fail
  go_ret
  exact ⟨rfl, BW⟩
theorem exact5_m2 {B P W M E H : Nat} {low : Int} (hf : Fm B P W M E H low) (mode : Int) (ba bb : Nat) (hba : ba < 18446744073709551616) (hbb : bb < 18446744073709551616) {w : World} (hT : Tab w) (hF : Frm w) (m1 : decide (mode < 0) = false) (m2 : decide (5 ≤ mode) = true) :
    Calls Tryd.prog 5 #[.int .i64 (B : Int), .int .i64 mode, .int .u64 (ba : Int), .int .u64 (bb : Int)] w fun e w' => e = .returned (.bool true) ∧ Below w.heap.size w w' := by
  go_enter Tryd.func5, Tryd.ntmps5
  go_wp2_with fail
  refine (awake5_any hT hF).mono ?_
  rintro en w1 ⟨rfl, b⟩
  replace hT := hT.on b
  replace hF := hF.on b
  have BW := b
  clear b
  go_wp2_with fail
  refine (of_fm hf _ hF).mono ?_
  rintro en w2 ⟨rfl, b⟩
  replace hT := hT.on b
  replace hF := hF.on b
  replace BW := Below.step BW b
  clear b
  go_upto_region 4 with fail
  obtain ⟨w3, e_w3⟩ : ∃ w', w2.alloc (.cells #[.int .i64 (B : Int), .int .i64 (P : Int), .int .i64 (W : Int)] 25) = w' := ⟨_, rfl⟩
  have b : Below w2.heap.size w2 w3 := e_w3 ▸ below_lit _ _
  have hs_w3 : w3.heap.size = w2.heap.size + 1 := e_w3 ▸ size_lit w2 _ rfl
  have zf : FB w3 w2.heap.size 25 (B : Int) (P : Int) (W : Int) := e_w3 ▸ FB.made_k w2 rfl 25 _ _ _
  rw [e_w3]
  clear e_w3
  replace hT := hT.on b
  replace hF := hF.on b
  replace BW := Below.step BW b
  clear b
  clear hs_w3
  clear hF
  obtain ⟨zfc0, zfc1, zfc2, zff0, zff1, zff2, zfl⟩ := zf.cells
  go_wp2_with fail
  go_ret
  exact ⟨rfl, BW⟩
theorem exact5_va {B P W M E H : Nat} {low : Int} (hf : Fm B P W M E H low) (mode : Int) (ba bb : Nat) (hba : ba < 18446744073709551616) (hbb : bb < 18446744073709551616) {w : World} (hT : Tab w) (hF : Frm w) (m1 : decide (mode < 0) = false) (m2 : decide (5 ≤ mode) = false) {an bn : Bool} {ax bx : Nat} {ae be : Int} {ea eb : Int} (hva : valS M E H low ba = (⟨an, ax, ae⟩, ea)) (hvb : valS M E H low bb = (⟨bn, bx, be⟩, eb)) (d1 : (ea != 0) = true) :
    Calls Tryd.prog 5 #[.int .i64 (B : Int), .int .i64 mode, .int .u64 (ba : Int), .int .u64 (bb : Int)] w fun e w' => e = .returned (.bool true) ∧ Below w.heap.size w w' := by
  have HVA := Lib.hid hva
  have HVB := Lib.hid hvb
  clear hva hvb
  go_enter Tryd.func5, Tryd.ntmps5
  go_wp2_with fail
  refine (awake5_any hT hF).mono ?_
  rintro en w1 ⟨rfl, b⟩
  replace hT := hT.on b
  replace hF := hF.on b
  have BW := b
  clear b
  go_wp2_with fail
  refine (of_fm hf _ hF).mono ?_
  rintro en w2 ⟨rfl, b⟩
  replace hT := hT.on b
  replace hF := hF.on b
  replace BW := Below.step BW b
  clear b
  go_upto_region 4 with fail
  obtain ⟨w3, e_w3⟩ : ∃ w', w2.alloc (.cells #[.int .i64 (B : Int), .int .i64 (P : Int), .int .i64 (W : Int)] 25) = w' := ⟨_, rfl⟩
  have b : Below w2.heap.size w2 w3 := e_w3 ▸ below_lit _ _
  have hs_w3 : w3.heap.size = w2.heap.size + 1 := e_w3 ▸ size_lit w2 _ rfl
  have zf : FB w3 w2.heap.size 25 (B : Int) (P : Int) (W : Int) := e_w3 ▸ FB.made_k w2 rfl 25 _ _ _
  rw [e_w3]
  clear e_w3
  replace hT := hT.on b
  replace hF := hF.on b
  replace BW := Below.step BW b
  clear b
  clear hs_w3
  clear hF
  obtain ⟨zfc0, zfc1, zfc2, zff0, zff1, zff2, zfl⟩ := zf.cells
  go_wp2_with fail
  refine (value_as hf ba hba hT HVA.out).mono ?_
  rintro en w4 ⟨V_ra, v_ra, rfl, ra, b⟩
  clear zfc0 zfc1 zfc2 zff0 zff1 zff2 zfl
  replace hT := hT.on b
  replace zf := zf.on b
  replace BW := Below.step BW b
  clear b
  obtain ⟨zfc0, zfc1, zfc2, zff0, zff1, zff2, zfl⟩ := zf.cells
  go_upto_region 7 with fail
  clear zfc0 zfc1 zfc2 zff0 zff1 zff2 zfl
  obtain ⟨w5, e_w5⟩ : ∃ w', w4.alloc (dob an V_ra v_ra v_ra ae 39) = w' := ⟨_, rfl⟩
  have b : Below w4.heap.size w4 w5 := e_w5 ▸ below_lit _ _
  have hs_w5 : w5.heap.size = w4.heap.size + 1 := e_w5 ▸ size_lit w4 _ rfl
  have za : DB w5 w4.heap.size 39 an V_ra v_ra v_ra ae := e_w5 ▸ DB.made w4 rfl 39 an V_ra v_ra v_ra ae
  rw [e_w5]
  clear e_w5
  replace hT := hT.on b
  replace zf := zf.on b
  replace ra := ra.on b
  replace BW := Below.step BW b
  clear b
  clear hs_w5
  obtain ⟨zfc0, zfc1, zfc2, zff0, zff1, zff2, zfl⟩ := zf.cells
  go_wp2_with fail
  refine (value_as hf bb hbb hT HVB.out).mono ?_
  rintro en w6 ⟨V_rb, v_rb, rfl, rb, b⟩
  clear zfc0 zfc1 zfc2 zff0 zff1 zff2 zfl
  replace hT := hT.on b
  replace zf := zf.on b
  replace ra := ra.on b
  replace za := za.on b
  replace BW := Below.step BW b
  clear b
  obtain ⟨zfc0, zfc1, zfc2, zff0, zff1, zff2, zfl⟩ := zf.cells
  go_upto_region 8 with fail
  clear zfc0 zfc1 zfc2 zff0 zff1 zff2 zfl
  obtain ⟨w7, e_w7⟩ : ∃ w', w6.alloc (dob bn V_rb v_rb v_rb be 39) = w' := ⟨_, rfl⟩
  have b : Below w6.heap.size w6 w7 := e_w7 ▸ below_lit _ _
  have hs_w7 : w7.heap.size = w6.heap.size + 1 := e_w7 ▸ size_lit w6 _ rfl
  have zb : DB w7 w6.heap.size 39 bn V_rb v_rb v_rb be := e_w7 ▸ DB.made w6 rfl 39 bn V_rb v_rb v_rb be
  rw [e_w7]
  clear e_w7
  replace hT := hT.on b
  replace zf := zf.on b
  replace ra := ra.on b
  replace za := za.on b
  replace rb := rb.on b
  replace BW := Below.step BW b
  clear b
  clear hs_w7
  obtain ⟨zfc0, zfc1, zfc2, zff0, zff1, zff2, zfl⟩ := zf.cells
  obtain ⟨zac0, zac1, zac2, zaf0, zaf1, zaf2, zal⟩ := za.cells
  obtain ⟨zbc0, zbc1, zbc2, zbf0, zbf1, zbf2, zbl⟩ := zb.cells
  go_wp2_with fail
  go_ret
  exact ⟨rfl, BW⟩
theorem exact5_vb {B P W M E H : Nat} {low : Int} (hf : Fm B P W M E H low) (mode : Int) (ba bb : Nat) (hba : ba < 18446744073709551616) (hbb : bb < 18446744073709551616) {w : World} (hT : Tab w) (hF : Frm w) (m1 : decide (mode < 0) = false) (m2 : decide (5 ≤ mode) = false) {an bn : Bool} {ax bx : Nat} {ae be : Int} {ea eb : Int} (hva : valS M E H low ba = (⟨an, ax, ae⟩, ea)) (hvb : valS M E H low bb = (⟨bn, bx, be⟩, eb)) (d1 : (ea != 0) = false) (d2 : (eb != 0) = true) :
    Calls Tryd.prog 5 #[.int .i64 (B : Int), .int .i64 mode, .int .u64 (ba : Int), .int .u64 (bb : Int)] w fun e w' => e = .returned (.bool true) ∧ Below w.heap.size w w' := by
  have HVA := Lib.hid hva
  have HVB := Lib.hid hvb
  clear hva hvb
  go_enter Tryd.func5, Tryd.ntmps5
  go_wp2_with fail
  refine (awake5_any hT hF).mono ?_
  rintro en w1 ⟨rfl, b⟩
  replace hT := hT.on b
  replace hF := hF.on b
  have BW := b
  clear b
  go_wp2_with fail
  refine (of_fm hf _ hF).mono ?_
  rintro en w2 ⟨rfl, b⟩
  replace hT := hT.on b
  replace hF := hF.on b
  replace BW := Below.step BW b
  clear b
  go_upto_region 4 with fail
  obtain ⟨w3, e_w3⟩ : ∃ w', w2.alloc (.cells #[.int .i64 (B : Int), .int .i64 (P : Int), .int .i64 (W : Int)] 25) = w' := ⟨_, rfl⟩
  have b : Below w2.heap.size w2 w3 := e_w3 ▸ below_lit _ _
  have hs_w3 : w3.heap.size = w2.heap.size + 1 := e_w3 ▸ size_lit w2 _ rfl
  have zf : FB w3 w2.heap.size 25 (B : Int) (P : Int) (W : Int) := e_w3 ▸ FB.made_k w2 rfl 25 _ _ _
  rw [e_w3]
  clear e_w3
  replace hT := hT.on b
  replace hF := hF.on b
  replace BW := Below.step BW b
  clear b
  clear hs_w3
  clear hF
  obtain ⟨zfc0, zfc1, zfc2, zff0, zff1, zff2, zfl⟩ := zf.cells
  go_wp2_with fail
  refine (value_as hf ba hba hT HVA.out).mono ?_
  rintro en w4 ⟨V_ra, v_ra, rfl, ra, b⟩
  clear zfc0 zfc1 zfc2 zff0 zff1 zff2 zfl
  replace hT := hT.on b
  replace zf := zf.on b
  replace BW := Below.step BW b
  clear b
  obtain ⟨zfc0, zfc1, zfc2, zff0, zff1, zff2, zfl⟩ := zf.cells
  go_upto_region 7 with fail
  clear zfc0 zfc1 zfc2 zff0 zff1 zff2 zfl
  obtain ⟨w5, e_w5⟩ : ∃ w', w4.alloc (dob an V_ra v_ra v_ra ae 39) = w' := ⟨_, rfl⟩
  have b : Below w4.heap.size w4 w5 := e_w5 ▸ below_lit _ _
  have hs_w5 : w5.heap.size = w4.heap.size + 1 := e_w5 ▸ size_lit w4 _ rfl
  have za : DB w5 w4.heap.size 39 an V_ra v_ra v_ra ae := e_w5 ▸ DB.made w4 rfl 39 an V_ra v_ra v_ra ae
  rw [e_w5]
  clear e_w5
  replace hT := hT.on b
  replace zf := zf.on b
  replace ra := ra.on b
  replace BW := Below.step BW b
  clear b
  clear hs_w5
  obtain ⟨zfc0, zfc1, zfc2, zff0, zff1, zff2, zfl⟩ := zf.cells
  go_wp2_with fail
  refine (value_as hf bb hbb hT HVB.out).mono ?_
  rintro en w6 ⟨V_rb, v_rb, rfl, rb, b⟩
  clear zfc0 zfc1 zfc2 zff0 zff1 zff2 zfl
  replace hT := hT.on b
  replace zf := zf.on b
  replace ra := ra.on b
  replace za := za.on b
  replace BW := Below.step BW b
  clear b
  obtain ⟨zfc0, zfc1, zfc2, zff0, zff1, zff2, zfl⟩ := zf.cells
  go_upto_region 8 with fail
  clear zfc0 zfc1 zfc2 zff0 zff1 zff2 zfl
  obtain ⟨w7, e_w7⟩ : ∃ w', w6.alloc (dob bn V_rb v_rb v_rb be 39) = w' := ⟨_, rfl⟩
  have b : Below w6.heap.size w6 w7 := e_w7 ▸ below_lit _ _
  have hs_w7 : w7.heap.size = w6.heap.size + 1 := e_w7 ▸ size_lit w6 _ rfl
  have zb : DB w7 w6.heap.size 39 bn V_rb v_rb v_rb be := e_w7 ▸ DB.made w6 rfl 39 bn V_rb v_rb v_rb be
  rw [e_w7]
  clear e_w7
  replace hT := hT.on b
  replace zf := zf.on b
  replace ra := ra.on b
  replace za := za.on b
  replace rb := rb.on b
  replace BW := Below.step BW b
  clear b
  clear hs_w7
  obtain ⟨zfc0, zfc1, zfc2, zff0, zff1, zff2, zfl⟩ := zf.cells
  obtain ⟨zac0, zac1, zac2, zaf0, zaf1, zaf2, zal⟩ := za.cells
  obtain ⟨zbc0, zbc1, zbc2, zbf0, zbf1, zbf2, zbl⟩ := zb.cells
  go_wp2_with fail
  go_ret
  exact ⟨rfl, BW⟩
set_option maxHeartbeats 4000000 in
set_option maxRecDepth 100000 in
theorem exact5_ff {B P W M E H : Nat} {low : Int} (hf : Fm B P W M E H low) (mode : Int) (ba bb : Nat) (hba : ba < 18446744073709551616) (hbb : bb < 18446744073709551616) {w : World} (hT : Tab w) (hF : Frm w) (m1 : decide (mode < 0) = false) (m2 : decide (5 ≤ mode) = false) {an bn : Bool} {ax bx : Nat} {ae be : Int} (hva : valS M E H low ba = (⟨an, ax, ae⟩, 0)) (hvb : valS M E H low bb = (⟨bn, bx, be⟩, 0)) (hla : blen ax ≤ 4096) (hlb : blen bx ≤ 4096) {sn pn : Bool} {sx px : Nat} {se pe : Int} (hs : addS ⟨an, ax, ae⟩ ⟨bn, bx, be⟩ = (⟨sn, sx, se⟩, 0)) (hls : blen sx ≤ 4096) (hp : mulS ⟨an, ax, ae⟩ ⟨bn, bx, be⟩ = (⟨pn, px, pe⟩, 0)) (hlp : blen px ≤ 4096) {ts tp : Nat} {fs fp : Int} (r1 : addI P M E H low mode ba bb = (ts, fs, 0)) (r2 : mulI P M E H low mode ba bb = (tp, fp, 0)) (ngs : Bool) (hns : decide (ts / H % 2 = 1) = ngs) (hts : ts < 18446744073709551616) (hos : roundS P M E H low mode ⟨sn, sx, se⟩ ngs = (ts, fs, 0)) {vsn : Bool} {vsx : Nat} {vse ers : Int} (hvs : valS M E H low ts = (⟨vsn, vsx, vse⟩, ers)) (hlvs : blen vsx ≤ 4096) (eqs : (ers == 0) = true) (mas : D.may ⟨vsn, vsx, vse⟩ = true) (mbs : D.may ⟨sn, sx, se⟩ = true) (xs : Bool) (hxs : decide (D.vl ⟨vsn, vsx, vse⟩ = D.vl ⟨sn, sx, se⟩) = xs) (fxs : (bits BinOp.and IntKind.i64 fs 1 == 0) = xs) (ngp : Bool) (hnp : decide (tp / H % 2 = 1) = ngp) (htp : tp < 18446744073709551616) (hop : roundS P M E H low mode ⟨pn, px, pe⟩ ngp = (tp, fp, 0)) {vpn : Bool} {vpx : Nat} {vpe erp : Int} (hvp : valS M E H low tp = (⟨vpn, vpx, vpe⟩, erp)) (hlvp : blen vpx ≤ 4096) (eqp : (erp == 0) = true) (map : D.may ⟨vpn, vpx, vpe⟩ = true) (mbp : D.may ⟨pn, px, pe⟩ = true) (xp : Bool) (hxp : decide (D.vl ⟨vpn, vpx, vpe⟩ = D.vl ⟨pn, px, pe⟩) = xp) (fxp : (bits BinOp.and IntKind.i64 fp 1 == 0) = xp)  :
    Calls Tryd.prog 5 #[.int .i64 (B : Int), .int .i64 mode, .int .u64 (ba : Int), .int .u64 (bb : Int)] w fun e w' => e = .returned (.bool true) ∧ Below w.heap.size w w' := by
  have HVA := Lib.hid hva
  have HVB := Lib.hid hvb
  clear hva hvb
  have HS := Lib.hid hs
  have HPR := Lib.hid hp
  have H1 := Lib.hid r1
  have H2 := Lib.hid r2
  clear hs hp r1 r2
  have HNs := Lib.hid hns
  have HTs := Lib.hid hos
  have HVs := Lib.hid hvs
  clear hns hos hvs
  have HXs := Lib.hid hxs
  clear hxs
  have HNp := Lib.hid hnp
  have HTp := Lib.hid hop
  have HVp := Lib.hid hvp
  clear hnp hop hvp
  have HXp := Lib.hid hxp
  clear hxp
  go_enter Tryd.func5, Tryd.ntmps5
  go_wp2_with fail
  refine (awake5_any hT hF).mono ?_
  rintro en w1 ⟨rfl, b⟩
  replace hT := hT.on b
  replace hF := hF.on b
  have BW := b
  clear b
  go_wp2_with fail
  refine (of_fm hf _ hF).mono ?_
  rintro en w2 ⟨rfl, b⟩
  replace hT := hT.on b
  replace hF := hF.on b
  replace BW := Below.step BW b
  clear b
  go_upto_region 4 with fail
  obtain ⟨w3, e_w3⟩ : ∃ w', w2.alloc (.cells #[.int .i64 (B : Int), .int .i64 (P : Int), .int .i64 (W : Int)] 25) = w' := ⟨_, rfl⟩
  have b : Below w2.heap.size w2 w3 := e_w3 ▸ below_lit _ _
  have hs_w3 : w3.heap.size = w2.heap.size + 1 := e_w3 ▸ size_lit w2 _ rfl
  have zf : FB w3 w2.heap.size 25 (B : Int) (P : Int) (W : Int) := e_w3 ▸ FB.made_k w2 rfl 25 _ _ _
  rw [e_w3]
  clear e_w3
  replace hT := hT.on b
  replace hF := hF.on b
  replace BW := Below.step BW b
  clear b
  clear hs_w3
  clear hF
  obtain ⟨zfc0, zfc1, zfc2, zff0, zff1, zff2, zfl⟩ := zf.cells
  go_wp2_with fail
  refine (value_as hf ba hba hT HVA.out).mono ?_
  rintro en w4 ⟨V_ra, v_ra, rfl, ra, b⟩
  clear zfc0 zfc1 zfc2 zff0 zff1 zff2 zfl
  replace hT := hT.on b
  replace zf := zf.on b
  replace BW := Below.step BW b
  clear b
  obtain ⟨zfc0, zfc1, zfc2, zff0, zff1, zff2, zfl⟩ := zf.cells
  go_upto_region 7 with fail
  clear zfc0 zfc1 zfc2 zff0 zff1 zff2 zfl
  obtain ⟨w5, e_w5⟩ : ∃ w', w4.alloc (dob an V_ra v_ra v_ra ae 39) = w' := ⟨_, rfl⟩
  have b : Below w4.heap.size w4 w5 := e_w5 ▸ below_lit _ _
  have hs_w5 : w5.heap.size = w4.heap.size + 1 := e_w5 ▸ size_lit w4 _ rfl
  have za : DB w5 w4.heap.size 39 an V_ra v_ra v_ra ae := e_w5 ▸ DB.made w4 rfl 39 an V_ra v_ra v_ra ae
  rw [e_w5]
  clear e_w5
  replace hT := hT.on b
  replace zf := zf.on b
  replace ra := ra.on b
  replace BW := Below.step BW b
  clear b
  clear hs_w5
  obtain ⟨zfc0, zfc1, zfc2, zff0, zff1, zff2, zfl⟩ := zf.cells
  go_wp2_with fail
  refine (value_as hf bb hbb hT HVB.out).mono ?_
  rintro en w6 ⟨V_rb, v_rb, rfl, rb, b⟩
  clear zfc0 zfc1 zfc2 zff0 zff1 zff2 zfl
  replace hT := hT.on b
  replace zf := zf.on b
  replace ra := ra.on b
  replace za := za.on b
  replace BW := Below.step BW b
  clear b
  obtain ⟨zfc0, zfc1, zfc2, zff0, zff1, zff2, zfl⟩ := zf.cells
  go_upto_region 8 with fail
  clear zfc0 zfc1 zfc2 zff0 zff1 zff2 zfl
  obtain ⟨w7, e_w7⟩ : ∃ w', w6.alloc (dob bn V_rb v_rb v_rb be 39) = w' := ⟨_, rfl⟩
  have b : Below w6.heap.size w6 w7 := e_w7 ▸ below_lit _ _
  have hs_w7 : w7.heap.size = w6.heap.size + 1 := e_w7 ▸ size_lit w6 _ rfl
  have zb : DB w7 w6.heap.size 39 bn V_rb v_rb v_rb be := e_w7 ▸ DB.made w6 rfl 39 bn V_rb v_rb v_rb be
  rw [e_w7]
  clear e_w7
  replace hT := hT.on b
  replace zf := zf.on b
  replace ra := ra.on b
  replace za := za.on b
  replace rb := rb.on b
  replace BW := Below.step BW b
  clear b
  clear hs_w7
  obtain ⟨zfc0, zfc1, zfc2, zff0, zff1, zff2, zfl⟩ := zf.cells
  obtain ⟨zac0, zac1, zac2, zaf0, zaf1, zaf2, zal⟩ := za.cells
  obtain ⟨zbc0, zbc1, zbc2, zbf0, zbf1, zbf2, zbl⟩ := zb.cells
  go_wp2_with fail
  have la := res_n_le ra (k := 128) hla
  have lb := res_n_le rb (k := 128) hlb
  refine (dadd_as (ra.arg (by omega)) (rb.arg (by omega)) (by omega) (by omega) hT HS.out).mono ?_
  rintro en w8 ⟨V_rs, v_rs, rfl, rs, b⟩
  clear zfc0 zfc1 zfc2 zff0 zff1 zff2 zfl zac0 zac1 zac2 zaf0 zaf1 zaf2 zal zbc0 zbc1 zbc2 zbf0 zbf1 zbf2 zbl
  replace hT := hT.on b
  replace zf := zf.on b
  replace ra := ra.on b
  replace za := za.on b
  replace rb := rb.on b
  replace zb := zb.on b
  replace BW := Below.step BW b
  clear b
  have ls := res_n_le rs (k := 128) hls
  obtain ⟨zfc0, zfc1, zfc2, zff0, zff1, zff2, zfl⟩ := zf.cells
  obtain ⟨zac0, zac1, zac2, zaf0, zaf1, zaf2, zal⟩ := za.cells
  obtain ⟨zbc0, zbc1, zbc2, zbf0, zbf1, zbf2, zbl⟩ := zb.cells
  go_upto_region 11 with fail
  clear zfc0 zfc1 zfc2 zff0 zff1 zff2 zfl zac0 zac1 zac2 zaf0 zaf1 zaf2 zal zbc0 zbc1 zbc2 zbf0 zbf1 zbf2 zbl
  obtain ⟨w9, e_w9⟩ : ∃ w', w8.alloc (dob sn V_rs v_rs v_rs se 39) = w' := ⟨_, rfl⟩
  have b : Below w8.heap.size w8 w9 := e_w9 ▸ below_lit _ _
  have hs_w9 : w9.heap.size = w8.heap.size + 1 := e_w9 ▸ size_lit w8 _ rfl
  have zs : DB w9 w8.heap.size 39 sn V_rs v_rs v_rs se := e_w9 ▸ DB.made w8 rfl 39 sn V_rs v_rs v_rs se
  rw [e_w9]
  clear e_w9
  replace hT := hT.on b
  replace zf := zf.on b
  replace ra := ra.on b
  replace za := za.on b
  replace rb := rb.on b
  replace zb := zb.on b
  replace rs := rs.on b
  replace BW := Below.step BW b
  clear b
  clear hs_w9
  obtain ⟨zfc0, zfc1, zfc2, zff0, zff1, zff2, zfl⟩ := zf.cells
  obtain ⟨zac0, zac1, zac2, zaf0, zaf1, zaf2, zal⟩ := za.cells
  obtain ⟨zbc0, zbc1, zbc2, zbf0, zbf1, zbf2, zbl⟩ := zb.cells
  go_wp2_with fail
  refine (dmul_as (ra.arg (by omega)) (rb.arg (by omega)) (by omega) (by omega) hT HPR.out).mono ?_
  rintro en w10 ⟨V_rp, v_rp, rfl, rp, b⟩
  clear zfc0 zfc1 zfc2 zff0 zff1 zff2 zfl zac0 zac1 zac2 zaf0 zaf1 zaf2 zal zbc0 zbc1 zbc2 zbf0 zbf1 zbf2 zbl
  replace hT := hT.on b
  replace zf := zf.on b
  replace ra := ra.on b
  replace za := za.on b
  replace rb := rb.on b
  replace zb := zb.on b
  replace rs := rs.on b
  replace zs := zs.on b
  replace BW := Below.step BW b
  clear b
  have lp := res_n_le rp (k := 128) hlp
  obtain ⟨zfc0, zfc1, zfc2, zff0, zff1, zff2, zfl⟩ := zf.cells
  obtain ⟨zac0, zac1, zac2, zaf0, zaf1, zaf2, zal⟩ := za.cells
  obtain ⟨zbc0, zbc1, zbc2, zbf0, zbf1, zbf2, zbl⟩ := zb.cells
  obtain ⟨zsc0, zsc1, zsc2, zsf0, zsf1, zsf2, zsl⟩ := zs.cells
  go_upto_region 12 with fail
  clear zfc0 zfc1 zfc2 zff0 zff1 zff2 zfl zac0 zac1 zac2 zaf0 zaf1 zaf2 zal zbc0 zbc1 zbc2 zbf0 zbf1 zbf2 zbl zsc0 zsc1 zsc2 zsf0 zsf1 zsf2 zsl
  obtain ⟨w11, e_w11⟩ : ∃ w', w10.alloc (dob pn V_rp v_rp v_rp pe 39) = w' := ⟨_, rfl⟩
  have b : Below w10.heap.size w10 w11 := e_w11 ▸ below_lit _ _
  have hs_w11 : w11.heap.size = w10.heap.size + 1 := e_w11 ▸ size_lit w10 _ rfl
  have zp : DB w11 w10.heap.size 39 pn V_rp v_rp v_rp pe := e_w11 ▸ DB.made w10 rfl 39 pn V_rp v_rp v_rp pe
  rw [e_w11]
  clear e_w11
  replace hT := hT.on b
  replace zf := zf.on b
  replace ra := ra.on b
  replace za := za.on b
  replace rb := rb.on b
  replace zb := zb.on b
  replace rs := rs.on b
  replace zs := zs.on b
  replace rp := rp.on b
  replace BW := Below.step BW b
  clear b
  clear hs_w11
  clear za zb ra rb
  obtain ⟨zfc0, zfc1, zfc2, zff0, zff1, zff2, zfl⟩ := zf.cells
  obtain ⟨zsc0, zsc1, zsc2, zsf0, zsf1, zsf2, zsl⟩ := zs.cells
  obtain ⟨zpc0, zpc1, zpc2, zpf0, zpf1, zpf2, zpl⟩ := zp.cells
  go_wp2_with fail
  refine (add_as hf mode ba bb hba hbb hT H1.out).mono ?_
  rintro en w12 ⟨rfl, b⟩
  clear zfc0 zfc1 zfc2 zff0 zff1 zff2 zfl zsc0 zsc1 zsc2 zsf0 zsf1 zsf2 zsl zpc0 zpc1 zpc2 zpf0 zpf1 zpf2 zpl
  replace hT := hT.on b
  replace zf := zf.on b
  replace rs := rs.on b
  replace zs := zs.on b
  replace rp := rp.on b
  replace zp := zp.on b
  replace BW := Below.step BW b
  clear b
  obtain ⟨zfc0, zfc1, zfc2, zff0, zff1, zff2, zfl⟩ := zf.cells
  obtain ⟨zsc0, zsc1, zsc2, zsf0, zsf1, zsf2, zsl⟩ := zs.cells
  obtain ⟨zpc0, zpc1, zpc2, zpf0, zpf1, zpf2, zpl⟩ := zp.cells
  go_wp2_with fail
  refine (mul_as hf mode ba bb hba hbb hT H2.out).mono ?_
  rintro en w13 ⟨rfl, b⟩
  clear zfc0 zfc1 zfc2 zff0 zff1 zff2 zfl zsc0 zsc1 zsc2 zsf0 zsf1 zsf2 zsl zpc0 zpc1 zpc2 zpf0 zpf1 zpf2 zpl
  replace hT := hT.on b
  replace zf := zf.on b
  replace rs := rs.on b
  replace zs := zs.on b
  replace rp := rp.on b
  replace zp := zp.on b
  replace BW := Below.step BW b
  clear b
  obtain ⟨zfc0, zfc1, zfc2, zff0, zff1, zff2, zfl⟩ := zf.cells
  obtain ⟨zsc0, zsc1, zsc2, zsf0, zsf1, zsf2, zsl⟩ := zs.cells
  obtain ⟨zpc0, zpc1, zpc2, zpf0, zpf1, zpf2, zpl⟩ := zp.cells
  go_wp2_with fail
  have ix0 := two0 sn V_rs v_rs v_rs se pn V_rp v_rp v_rp pe
  have ix1 := two1 sn V_rs v_rs v_rs se pn V_rp v_rp v_rp pe
  clear zfc0 zfc1 zfc2 zff0 zff1 zff2 zfl zsc0 zsc1 zsc2 zsf0 zsf1 zsf2 zsl zpc0 zpc1 zpc2 zpf0 zpf1 zpf2 zpl
  clear zs zp
  refine wp_loop_rounds 3 ?_
  rw [rounds_succ]
  obtain ⟨zfc0, zfc1, zfc2, zff0, zff1, zff2, zfl⟩ := zf.cells
  go_upto_region 24 with fail
  clear zfc0 zfc1 zfc2 zff0 zff1 zff2 zfl
  obtain ⟨w14, e_w14⟩ : ∃ w', w13.alloc (dob sn V_rs v_rs v_rs se 39) = w' := ⟨_, rfl⟩
  have b : Below w13.heap.size w13 w14 := e_w14 ▸ below_lit _ _
  have hs_w14 : w14.heap.size = w13.heap.size + 1 := e_w14 ▸ size_lit w13 _ rfl
  have zxs : DB w14 w13.heap.size 39 sn V_rs v_rs v_rs se := e_w14 ▸ DB.made w13 rfl 39 sn V_rs v_rs v_rs se
  rw [e_w14]
  clear e_w14
  replace hT := hT.on b
  replace zf := zf.on b
  replace rs := rs.on b
  replace rp := rp.on b
  replace BW := Below.step BW b
  clear b
  clear hs_w14
  replace hT := hT.on ((Below.refl _ _).drew : Below w14.heap.size w14 w14.drew)
  replace zf := zf.on ((Below.refl _ _).drew : Below w14.heap.size w14 w14.drew)
  replace rs := rs.on ((Below.refl _ _).drew : Below w14.heap.size w14 w14.drew)
  replace rp := rp.on ((Below.refl _ _).drew : Below w14.heap.size w14 w14.drew)
  replace zxs := zxs.on ((Below.refl _ _).drew : Below w14.heap.size w14 w14.drew)
  replace BW := Lib.hid (Below.step BW ((Below.refl _ _).drew : Below w14.heap.size w14 w14.drew))
  go_region_held3 (fun w' => w'.cell? ⟨w2.heap.size, 0, none⟩ = some (.int .i64 (B : Int)) ∧ w'.cell? ⟨w2.heap.size, 1, none⟩ = some (.int .i64 (P : Int)) ∧ w'.cell? ⟨w2.heap.size, 2, none⟩ = some (.int .i64 (W : Int)) ∧ w'.cell? ⟨w13.heap.size, 0, none⟩ = some (.bool sn) ∧ w'.cell? ⟨w13.heap.size, 1, none⟩ = some (.slice V_rs v_rs v_rs) ∧ w'.cell? ⟨w13.heap.size, 2, none⟩ = some (.int .i64 se))
    ((first | (with_reducible exact ⟨zf.cells.1, zf.cells.2.1, zf.cells.2.2.1, zxs.cells.1, zxs.cells.2.1, zxs.cells.2.2.1⟩)))
    (first
      | (go_at_call 22
         (with_reducible refine (fneg_as hf ts hts ngs HNs.out _).mono ?_)
         rintro en w15 ⟨rfl, b⟩
         replace hT := hT.on b
         replace zf := zf.on b
         replace rs := rs.on b
         replace rp := rp.on b
         replace zxs := zxs.on b
         replace BW := Lib.hid (Below.step BW.out b)
         clear b)
      | (go_at_call 26
         (with_reducible refine (to_as hf (rs.arg (by omega)) (by omega) hT mode ngs HTs.out).mono ?_)
         rintro en w16 ⟨rfl, b⟩
         replace hT := hT.on b
         replace zf := zf.on b
         replace rs := rs.on b
         replace rp := rp.on b
         replace zxs := zxs.on b
         replace BW := Lib.hid (Below.step BW.out b)
         clear b))
  all_goals replace BW := BW.out
  obtain ⟨zfc0, zfc1, zfc2, zff0, zff1, zff2, zfl⟩ := zf.cells
  go_wp2_with fail
  refine (value_as hf ts hts hT HVs.out).mono ?_
  rintro en w17 ⟨V_rvs, v_rvs, rfl, rvs, b⟩
  clear zfc0 zfc1 zfc2 zff0 zff1 zff2 zfl
  replace hT := hT.on b
  replace zf := zf.on b
  replace rs := rs.on b
  replace rp := rp.on b
  replace zxs := zxs.on b
  replace BW := Below.step BW b
  clear b
  have lvs := res_n_le rvs (k := 128) hlvs
  obtain ⟨zfc0, zfc1, zfc2, zff0, zff1, zff2, zfl⟩ := zf.cells
  obtain ⟨zxsc0, zxsc1, zxsc2, zxsf0, zxsf1, zxsf2, zxsl⟩ := zxs.cells
  go_upto_region 26 with fail
  clear zfc0 zfc1 zfc2 zff0 zff1 zff2 zfl zxsc0 zxsc1 zxsc2 zxsf0 zxsf1 zxsf2 zxsl
  obtain ⟨w18, e_w18⟩ : ∃ w', w17.alloc (dob vsn V_rvs v_rvs v_rvs vse 39) = w' := ⟨_, rfl⟩
  have b : Below w17.heap.size w17 w18 := e_w18 ▸ below_lit _ _
  have hs_w18 : w18.heap.size = w17.heap.size + 1 := e_w18 ▸ size_lit w17 _ rfl
  have zvs : DB w18 w17.heap.size 39 vsn V_rvs v_rvs v_rvs vse := e_w18 ▸ DB.made w17 rfl 39 vsn V_rvs v_rvs v_rvs vse
  rw [e_w18]
  clear e_w18
  replace hT := hT.on b
  replace zf := zf.on b
  replace rs := rs.on b
  replace rp := rp.on b
  replace zxs := zxs.on b
  replace rvs := rvs.on b
  replace BW := Below.step BW b
  clear b
  clear hs_w18
  obtain ⟨zxsc0, zxsc1, zxsc2, zxsf0, zxsf1, zxsf2, zxsl⟩ := zxs.cells
  obtain ⟨zvsc0, zvsc1, zvsc2, zvsf0, zvsf1, zvsf2, zvsl⟩ := zvs.cells
  go_wp2_with fail
  refine (dsame_vl (rvs.arg (by omega)) (rs.arg (by omega)) (by omega) (by omega) hT mas mbs xs HXs.out).mono ?_
  rintro en w19 ⟨rfl, b⟩
  clear zxsc0 zxsc1 zxsc2 zxsf0 zxsf1 zxsf2 zxsl zvsc0 zvsc1 zvsc2 zvsf0 zvsf1 zvsf2 zvsl
  replace hT := hT.on b
  replace zf := zf.on b
  replace rs := rs.on b
  replace rp := rp.on b
  replace zxs := zxs.on b
  replace rvs := rvs.on b
  replace zvs := zvs.on b
  replace BW := Below.step BW b
  clear b
  go_wp2_with fail
  clear zxs zvs rvs
  rw [rounds_succ]
  obtain ⟨zfc0, zfc1, zfc2, zff0, zff1, zff2, zfl⟩ := zf.cells
  go_upto_region 24 with fail
  clear zfc0 zfc1 zfc2 zff0 zff1 zff2 zfl
  obtain ⟨w20, e_w20⟩ : ∃ w', w19.alloc (dob pn V_rp v_rp v_rp pe 39) = w' := ⟨_, rfl⟩
  have b : Below w19.heap.size w19 w20 := e_w20 ▸ below_lit _ _
  have hs_w20 : w20.heap.size = w19.heap.size + 1 := e_w20 ▸ size_lit w19 _ rfl
  have zxp : DB w20 w19.heap.size 39 pn V_rp v_rp v_rp pe := e_w20 ▸ DB.made w19 rfl 39 pn V_rp v_rp v_rp pe
  rw [e_w20]
  clear e_w20
  replace hT := hT.on b
  replace zf := zf.on b
  replace rs := rs.on b
  replace rp := rp.on b
  replace BW := Below.step BW b
  clear b
  clear hs_w20
  replace hT := hT.on ((Below.refl _ _).drew : Below w20.heap.size w20 w20.drew)
  replace zf := zf.on ((Below.refl _ _).drew : Below w20.heap.size w20 w20.drew)
  replace rs := rs.on ((Below.refl _ _).drew : Below w20.heap.size w20 w20.drew)
  replace rp := rp.on ((Below.refl _ _).drew : Below w20.heap.size w20 w20.drew)
  replace zxp := zxp.on ((Below.refl _ _).drew : Below w20.heap.size w20 w20.drew)
  replace BW := Lib.hid (Below.step BW ((Below.refl _ _).drew : Below w20.heap.size w20 w20.drew))
  go_region_held3 (fun w' => w'.cell? ⟨w2.heap.size, 0, none⟩ = some (.int .i64 (B : Int)) ∧ w'.cell? ⟨w2.heap.size, 1, none⟩ = some (.int .i64 (P : Int)) ∧ w'.cell? ⟨w2.heap.size, 2, none⟩ = some (.int .i64 (W : Int)) ∧ w'.cell? ⟨w19.heap.size, 0, none⟩ = some (.bool pn) ∧ w'.cell? ⟨w19.heap.size, 1, none⟩ = some (.slice V_rp v_rp v_rp) ∧ w'.cell? ⟨w19.heap.size, 2, none⟩ = some (.int .i64 pe))
    ((first | (with_reducible exact ⟨zf.cells.1, zf.cells.2.1, zf.cells.2.2.1, zxp.cells.1, zxp.cells.2.1, zxp.cells.2.2.1⟩)))
    (first
      | (go_at_call 22
         (with_reducible refine (fneg_as hf tp htp ngp HNp.out _).mono ?_)
         rintro en w21 ⟨rfl, b⟩
         replace hT := hT.on b
         replace zf := zf.on b
         replace rs := rs.on b
         replace rp := rp.on b
         replace zxp := zxp.on b
         replace BW := Lib.hid (Below.step BW.out b)
         clear b)
      | (go_at_call 26
         (with_reducible refine (to_as hf (rp.arg (by omega)) (by omega) hT mode ngp HTp.out).mono ?_)
         rintro en w22 ⟨rfl, b⟩
         replace hT := hT.on b
         replace zf := zf.on b
         replace rs := rs.on b
         replace rp := rp.on b
         replace zxp := zxp.on b
         replace BW := Lib.hid (Below.step BW.out b)
         clear b))
  all_goals replace BW := BW.out
  obtain ⟨zfc0, zfc1, zfc2, zff0, zff1, zff2, zfl⟩ := zf.cells
  go_wp2_with fail
  refine (value_as hf tp htp hT HVp.out).mono ?_
  rintro en w23 ⟨V_rvp, v_rvp, rfl, rvp, b⟩
  clear zfc0 zfc1 zfc2 zff0 zff1 zff2 zfl
  replace hT := hT.on b
  replace zf := zf.on b
  replace rs := rs.on b
  replace rp := rp.on b
  replace zxp := zxp.on b
  replace BW := Below.step BW b
  clear b
  have lvp := res_n_le rvp (k := 128) hlvp
  obtain ⟨zfc0, zfc1, zfc2, zff0, zff1, zff2, zfl⟩ := zf.cells
  obtain ⟨zxpc0, zxpc1, zxpc2, zxpf0, zxpf1, zxpf2, zxpl⟩ := zxp.cells
  go_upto_region 26 with fail
  clear zfc0 zfc1 zfc2 zff0 zff1 zff2 zfl zxpc0 zxpc1 zxpc2 zxpf0 zxpf1 zxpf2 zxpl
  obtain ⟨w24, e_w24⟩ : ∃ w', w23.alloc (dob vpn V_rvp v_rvp v_rvp vpe 39) = w' := ⟨_, rfl⟩
  have b : Below w23.heap.size w23 w24 := e_w24 ▸ below_lit _ _
  have hs_w24 : w24.heap.size = w23.heap.size + 1 := e_w24 ▸ size_lit w23 _ rfl
  have zvp : DB w24 w23.heap.size 39 vpn V_rvp v_rvp v_rvp vpe := e_w24 ▸ DB.made w23 rfl 39 vpn V_rvp v_rvp v_rvp vpe
  rw [e_w24]
  clear e_w24
  replace hT := hT.on b
  replace zf := zf.on b
  replace rs := rs.on b
  replace rp := rp.on b
  replace zxp := zxp.on b
  replace rvp := rvp.on b
  replace BW := Below.step BW b
  clear b
  clear hs_w24
  obtain ⟨zxpc0, zxpc1, zxpc2, zxpf0, zxpf1, zxpf2, zxpl⟩ := zxp.cells
  obtain ⟨zvpc0, zvpc1, zvpc2, zvpf0, zvpf1, zvpf2, zvpl⟩ := zvp.cells
  go_wp2_with fail
  refine (dsame_vl (rvp.arg (by omega)) (rp.arg (by omega)) (by omega) (by omega) hT map mbp xp HXp.out).mono ?_
  rintro en w25 ⟨rfl, b⟩
  clear zxpc0 zxpc1 zxpc2 zxpf0 zxpf1 zxpf2 zxpl zvpc0 zvpc1 zvpc2 zvpf0 zvpf1 zvpf2 zvpl
  replace hT := hT.on b
  replace zf := zf.on b
  replace rs := rs.on b
  replace rp := rp.on b
  replace zxp := zxp.on b
  replace rvp := rvp.on b
  replace zvp := zvp.on b
  replace BW := Below.step BW b
  clear b
  go_wp2_with fail
  clear zxp zvp rvp
  rw [rounds_succ]
  go_wp2_with fail
  go_ret
  exact ⟨rfl, BW⟩
set_option maxHeartbeats 4000000 in
set_option maxRecDepth 100000 in
theorem exact5_fi {B P W M E H : Nat} {low : Int} (hf : Fm B P W M E H low) (mode : Int) (ba bb : Nat) (hba : ba < 18446744073709551616) (hbb : bb < 18446744073709551616) {w : World} (hT : Tab w) (hF : Frm w) (m1 : decide (mode < 0) = false) (m2 : decide (5 ≤ mode) = false) {an bn : Bool} {ax bx : Nat} {ae be : Int} (hva : valS M E H low ba = (⟨an, ax, ae⟩, 0)) (hvb : valS M E H low bb = (⟨bn, bx, be⟩, 0)) (hla : blen ax ≤ 4096) (hlb : blen bx ≤ 4096) {sn pn : Bool} {sx px : Nat} {se pe : Int} (hs : addS ⟨an, ax, ae⟩ ⟨bn, bx, be⟩ = (⟨sn, sx, se⟩, 0)) (hls : blen sx ≤ 4096) (hp : mulS ⟨an, ax, ae⟩ ⟨bn, bx, be⟩ = (⟨pn, px, pe⟩, 0)) (hlp : blen px ≤ 4096) {ts tp : Nat} {fs fp : Int} (r1 : addI P M E H low mode ba bb = (ts, fs, 0)) (r2 : mulI P M E H low mode ba bb = (tp, fp, 0)) (ngs : Bool) (hns : decide (ts / H % 2 = 1) = ngs) (hts : ts < 18446744073709551616) (hos : roundS P M E H low mode ⟨sn, sx, se⟩ ngs = (ts, fs, 0)) {vsn : Bool} {vsx : Nat} {vse ers : Int} (hvs : valS M E H low ts = (⟨vsn, vsx, vse⟩, ers)) (hlvs : blen vsx ≤ 4096) (eqs : (ers == 0) = true) (mas : D.may ⟨vsn, vsx, vse⟩ = true) (mbs : D.may ⟨sn, sx, se⟩ = true) (xs : Bool) (hxs : decide (D.vl ⟨vsn, vsx, vse⟩ = D.vl ⟨sn, sx, se⟩) = xs) (fxs : (bits BinOp.and IntKind.i64 fs 1 == 0) = xs) (ngp : Bool) (hnp : decide (tp / H % 2 = 1) = ngp) (htp : tp < 18446744073709551616) (hop : roundS P M E H low mode ⟨pn, px, pe⟩ ngp = (tp, fp, 0)) {vpn : Bool} {vpx : Nat} {vpe erp : Int} (hvp : valS M E H low tp = (⟨vpn, vpx, vpe⟩, erp)) (hlvp : blen vpx ≤ 4096) (eqp : (erp == 0) = false) (fxp : (bits BinOp.and IntKind.i64 fp 1 == 0) = false)  :
    Calls Tryd.prog 5 #[.int .i64 (B : Int), .int .i64 mode, .int .u64 (ba : Int), .int .u64 (bb : Int)] w fun e w' => e = .returned (.bool true) ∧ Below w.heap.size w w' := by
  have HVA := Lib.hid hva
  have HVB := Lib.hid hvb
  clear hva hvb
  have HS := Lib.hid hs
  have HPR := Lib.hid hp
  have H1 := Lib.hid r1
  have H2 := Lib.hid r2
  clear hs hp r1 r2
  have HNs := Lib.hid hns
  have HTs := Lib.hid hos
  have HVs := Lib.hid hvs
  clear hns hos hvs
  have HXs := Lib.hid hxs
  clear hxs
  have HNp := Lib.hid hnp
  have HTp := Lib.hid hop
  have HVp := Lib.hid hvp
  clear hnp hop hvp
  go_enter Tryd.func5, Tryd.ntmps5
  go_wp2_with fail
  refine (awake5_any hT hF).mono ?_
  rintro en w1 ⟨rfl, b⟩
  replace hT := hT.on b
  replace hF := hF.on b
  have BW := b
  clear b
  go_wp2_with fail
  refine (of_fm hf _ hF).mono ?_
  rintro en w2 ⟨rfl, b⟩
  replace hT := hT.on b
  replace hF := hF.on b
  replace BW := Below.step BW b
  clear b
  go_upto_region 4 with fail
  obtain ⟨w3, e_w3⟩ : ∃ w', w2.alloc (.cells #[.int .i64 (B : Int), .int .i64 (P : Int), .int .i64 (W : Int)] 25) = w' := ⟨_, rfl⟩
  have b : Below w2.heap.size w2 w3 := e_w3 ▸ below_lit _ _
  have hs_w3 : w3.heap.size = w2.heap.size + 1 := e_w3 ▸ size_lit w2 _ rfl
  have zf : FB w3 w2.heap.size 25 (B : Int) (P : Int) (W : Int) := e_w3 ▸ FB.made_k w2 rfl 25 _ _ _
  rw [e_w3]
  clear e_w3
  replace hT := hT.on b
  replace hF := hF.on b
  replace BW := Below.step BW b
  clear b
  clear hs_w3
  clear hF
  obtain ⟨zfc0, zfc1, zfc2, zff0, zff1, zff2, zfl⟩ := zf.cells
  go_wp2_with fail
  refine (value_as hf ba hba hT HVA.out).mono ?_
  rintro en w4 ⟨V_ra, v_ra, rfl, ra, b⟩
  clear zfc0 zfc1 zfc2 zff0 zff1 zff2 zfl
  replace hT := hT.on b
  replace zf := zf.on b
  replace BW := Below.step BW b
  clear b
  obtain ⟨zfc0, zfc1, zfc2, zff0, zff1, zff2, zfl⟩ := zf.cells
  go_upto_region 7 with fail
  clear zfc0 zfc1 zfc2 zff0 zff1 zff2 zfl
  obtain ⟨w5, e_w5⟩ : ∃ w', w4.alloc (dob an V_ra v_ra v_ra ae 39) = w' := ⟨_, rfl⟩
  have b : Below w4.heap.size w4 w5 := e_w5 ▸ below_lit _ _
  have hs_w5 : w5.heap.size = w4.heap.size + 1 := e_w5 ▸ size_lit w4 _ rfl
  have za : DB w5 w4.heap.size 39 an V_ra v_ra v_ra ae := e_w5 ▸ DB.made w4 rfl 39 an V_ra v_ra v_ra ae
  rw [e_w5]
  clear e_w5
  replace hT := hT.on b
  replace zf := zf.on b
  replace ra := ra.on b
  replace BW := Below.step BW b
  clear b
  clear hs_w5
  obtain ⟨zfc0, zfc1, zfc2, zff0, zff1, zff2, zfl⟩ := zf.cells
  go_wp2_with fail
  refine (value_as hf bb hbb hT HVB.out).mono ?_
  rintro en w6 ⟨V_rb, v_rb, rfl, rb, b⟩
  clear zfc0 zfc1 zfc2 zff0 zff1 zff2 zfl
  replace hT := hT.on b
  replace zf := zf.on b
  replace ra := ra.on b
  replace za := za.on b
  replace BW := Below.step BW b
  clear b
  obtain ⟨zfc0, zfc1, zfc2, zff0, zff1, zff2, zfl⟩ := zf.cells
  go_upto_region 8 with fail
  clear zfc0 zfc1 zfc2 zff0 zff1 zff2 zfl
  obtain ⟨w7, e_w7⟩ : ∃ w', w6.alloc (dob bn V_rb v_rb v_rb be 39) = w' := ⟨_, rfl⟩
  have b : Below w6.heap.size w6 w7 := e_w7 ▸ below_lit _ _
  have hs_w7 : w7.heap.size = w6.heap.size + 1 := e_w7 ▸ size_lit w6 _ rfl
  have zb : DB w7 w6.heap.size 39 bn V_rb v_rb v_rb be := e_w7 ▸ DB.made w6 rfl 39 bn V_rb v_rb v_rb be
  rw [e_w7]
  clear e_w7
  replace hT := hT.on b
  replace zf := zf.on b
  replace ra := ra.on b
  replace za := za.on b
  replace rb := rb.on b
  replace BW := Below.step BW b
  clear b
  clear hs_w7
  obtain ⟨zfc0, zfc1, zfc2, zff0, zff1, zff2, zfl⟩ := zf.cells
  obtain ⟨zac0, zac1, zac2, zaf0, zaf1, zaf2, zal⟩ := za.cells
  obtain ⟨zbc0, zbc1, zbc2, zbf0, zbf1, zbf2, zbl⟩ := zb.cells
  go_wp2_with fail
  have la := res_n_le ra (k := 128) hla
  have lb := res_n_le rb (k := 128) hlb
  refine (dadd_as (ra.arg (by omega)) (rb.arg (by omega)) (by omega) (by omega) hT HS.out).mono ?_
  rintro en w8 ⟨V_rs, v_rs, rfl, rs, b⟩
  clear zfc0 zfc1 zfc2 zff0 zff1 zff2 zfl zac0 zac1 zac2 zaf0 zaf1 zaf2 zal zbc0 zbc1 zbc2 zbf0 zbf1 zbf2 zbl
  replace hT := hT.on b
  replace zf := zf.on b
  replace ra := ra.on b
  replace za := za.on b
  replace rb := rb.on b
  replace zb := zb.on b
  replace BW := Below.step BW b
  clear b
  have ls := res_n_le rs (k := 128) hls
  obtain ⟨zfc0, zfc1, zfc2, zff0, zff1, zff2, zfl⟩ := zf.cells
  obtain ⟨zac0, zac1, zac2, zaf0, zaf1, zaf2, zal⟩ := za.cells
  obtain ⟨zbc0, zbc1, zbc2, zbf0, zbf1, zbf2, zbl⟩ := zb.cells
  go_upto_region 11 with fail
  clear zfc0 zfc1 zfc2 zff0 zff1 zff2 zfl zac0 zac1 zac2 zaf0 zaf1 zaf2 zal zbc0 zbc1 zbc2 zbf0 zbf1 zbf2 zbl
  obtain ⟨w9, e_w9⟩ : ∃ w', w8.alloc (dob sn V_rs v_rs v_rs se 39) = w' := ⟨_, rfl⟩
  have b : Below w8.heap.size w8 w9 := e_w9 ▸ below_lit _ _
  have hs_w9 : w9.heap.size = w8.heap.size + 1 := e_w9 ▸ size_lit w8 _ rfl
  have zs : DB w9 w8.heap.size 39 sn V_rs v_rs v_rs se := e_w9 ▸ DB.made w8 rfl 39 sn V_rs v_rs v_rs se
  rw [e_w9]
  clear e_w9
  replace hT := hT.on b
  replace zf := zf.on b
  replace ra := ra.on b
  replace za := za.on b
  replace rb := rb.on b
  replace zb := zb.on b
  replace rs := rs.on b
  replace BW := Below.step BW b
  clear b
  clear hs_w9
  obtain ⟨zfc0, zfc1, zfc2, zff0, zff1, zff2, zfl⟩ := zf.cells
  obtain ⟨zac0, zac1, zac2, zaf0, zaf1, zaf2, zal⟩ := za.cells
  obtain ⟨zbc0, zbc1, zbc2, zbf0, zbf1, zbf2, zbl⟩ := zb.cells
  go_wp2_with fail
  refine (dmul_as (ra.arg (by omega)) (rb.arg (by omega)) (by omega) (by omega) hT HPR.out).mono ?_
  rintro en w10 ⟨V_rp, v_rp, rfl, rp, b⟩
  clear zfc0 zfc1 zfc2 zff0 zff1 zff2 zfl zac0 zac1 zac2 zaf0 zaf1 zaf2 zal zbc0 zbc1 zbc2 zbf0 zbf1 zbf2 zbl
  replace hT := hT.on b
  replace zf := zf.on b
  replace ra := ra.on b
  replace za := za.on b
  replace rb := rb.on b
  replace zb := zb.on b
  replace rs := rs.on b
  replace zs := zs.on b
  replace BW := Below.step BW b
  clear b
  have lp := res_n_le rp (k := 128) hlp
  obtain ⟨zfc0, zfc1, zfc2, zff0, zff1, zff2, zfl⟩ := zf.cells
  obtain ⟨zac0, zac1, zac2, zaf0, zaf1, zaf2, zal⟩ := za.cells
  obtain ⟨zbc0, zbc1, zbc2, zbf0, zbf1, zbf2, zbl⟩ := zb.cells
  obtain ⟨zsc0, zsc1, zsc2, zsf0, zsf1, zsf2, zsl⟩ := zs.cells
  go_upto_region 12 with fail
  clear zfc0 zfc1 zfc2 zff0 zff1 zff2 zfl zac0 zac1 zac2 zaf0 zaf1 zaf2 zal zbc0 zbc1 zbc2 zbf0 zbf1 zbf2 zbl zsc0 zsc1 zsc2 zsf0 zsf1 zsf2 zsl
  obtain ⟨w11, e_w11⟩ : ∃ w', w10.alloc (dob pn V_rp v_rp v_rp pe 39) = w' := ⟨_, rfl⟩
  have b : Below w10.heap.size w10 w11 := e_w11 ▸ below_lit _ _
  have hs_w11 : w11.heap.size = w10.heap.size + 1 := e_w11 ▸ size_lit w10 _ rfl
  have zp : DB w11 w10.heap.size 39 pn V_rp v_rp v_rp pe := e_w11 ▸ DB.made w10 rfl 39 pn V_rp v_rp v_rp pe
  rw [e_w11]
  clear e_w11
  replace hT := hT.on b
  replace zf := zf.on b
  replace ra := ra.on b
  replace za := za.on b
  replace rb := rb.on b
  replace zb := zb.on b
  replace rs := rs.on b
  replace zs := zs.on b
  replace rp := rp.on b
  replace BW := Below.step BW b
  clear b
  clear hs_w11
  clear za zb ra rb
  obtain ⟨zfc0, zfc1, zfc2, zff0, zff1, zff2, zfl⟩ := zf.cells
  obtain ⟨zsc0, zsc1, zsc2, zsf0, zsf1, zsf2, zsl⟩ := zs.cells
  obtain ⟨zpc0, zpc1, zpc2, zpf0, zpf1, zpf2, zpl⟩ := zp.cells
  go_wp2_with fail
  refine (add_as hf mode ba bb hba hbb hT H1.out).mono ?_
  rintro en w12 ⟨rfl, b⟩
  clear zfc0 zfc1 zfc2 zff0 zff1 zff2 zfl zsc0 zsc1 zsc2 zsf0 zsf1 zsf2 zsl zpc0 zpc1 zpc2 zpf0 zpf1 zpf2 zpl
  replace hT := hT.on b
  replace zf := zf.on b
  replace rs := rs.on b
  replace zs := zs.on b
  replace rp := rp.on b
  replace zp := zp.on b
  replace BW := Below.step BW b
  clear b
  obtain ⟨zfc0, zfc1, zfc2, zff0, zff1, zff2, zfl⟩ := zf.cells
  obtain ⟨zsc0, zsc1, zsc2, zsf0, zsf1, zsf2, zsl⟩ := zs.cells
  obtain ⟨zpc0, zpc1, zpc2, zpf0, zpf1, zpf2, zpl⟩ := zp.cells
  go_wp2_with fail
  refine (mul_as hf mode ba bb hba hbb hT H2.out).mono ?_
  rintro en w13 ⟨rfl, b⟩
  clear zfc0 zfc1 zfc2 zff0 zff1 zff2 zfl zsc0 zsc1 zsc2 zsf0 zsf1 zsf2 zsl zpc0 zpc1 zpc2 zpf0 zpf1 zpf2 zpl
  replace hT := hT.on b
  replace zf := zf.on b
  replace rs := rs.on b
  replace zs := zs.on b
  replace rp := rp.on b
  replace zp := zp.on b
  replace BW := Below.step BW b
  clear b
  obtain ⟨zfc0, zfc1, zfc2, zff0, zff1, zff2, zfl⟩ := zf.cells
  obtain ⟨zsc0, zsc1, zsc2, zsf0, zsf1, zsf2, zsl⟩ := zs.cells
  obtain ⟨zpc0, zpc1, zpc2, zpf0, zpf1, zpf2, zpl⟩ := zp.cells
  go_wp2_with fail
  have ix0 := two0 sn V_rs v_rs v_rs se pn V_rp v_rp v_rp pe
  have ix1 := two1 sn V_rs v_rs v_rs se pn V_rp v_rp v_rp pe
  clear zfc0 zfc1 zfc2 zff0 zff1 zff2 zfl zsc0 zsc1 zsc2 zsf0 zsf1 zsf2 zsl zpc0 zpc1 zpc2 zpf0 zpf1 zpf2 zpl
  clear zs zp
  refine wp_loop_rounds 3 ?_
  rw [rounds_succ]
  obtain ⟨zfc0, zfc1, zfc2, zff0, zff1, zff2, zfl⟩ := zf.cells
  go_upto_region 24 with fail
  clear zfc0 zfc1 zfc2 zff0 zff1 zff2 zfl
  obtain ⟨w14, e_w14⟩ : ∃ w', w13.alloc (dob sn V_rs v_rs v_rs se 39) = w' := ⟨_, rfl⟩
  have b : Below w13.heap.size w13 w14 := e_w14 ▸ below_lit _ _
  have hs_w14 : w14.heap.size = w13.heap.size + 1 := e_w14 ▸ size_lit w13 _ rfl
  have zxs : DB w14 w13.heap.size 39 sn V_rs v_rs v_rs se := e_w14 ▸ DB.made w13 rfl 39 sn V_rs v_rs v_rs se
  rw [e_w14]
  clear e_w14
  replace hT := hT.on b
  replace zf := zf.on b
  replace rs := rs.on b
  replace rp := rp.on b
  replace BW := Below.step BW b
  clear b
  clear hs_w14
  replace hT := hT.on ((Below.refl _ _).drew : Below w14.heap.size w14 w14.drew)
  replace zf := zf.on ((Below.refl _ _).drew : Below w14.heap.size w14 w14.drew)
  replace rs := rs.on ((Below.refl _ _).drew : Below w14.heap.size w14 w14.drew)
  replace rp := rp.on ((Below.refl _ _).drew : Below w14.heap.size w14 w14.drew)
  replace zxs := zxs.on ((Below.refl _ _).drew : Below w14.heap.size w14 w14.drew)
  replace BW := Lib.hid (Below.step BW ((Below.refl _ _).drew : Below w14.heap.size w14 w14.drew))
  go_region_held3 (fun w' => w'.cell? ⟨w2.heap.size, 0, none⟩ = some (.int .i64 (B : Int)) ∧ w'.cell? ⟨w2.heap.size, 1, none⟩ = some (.int .i64 (P : Int)) ∧ w'.cell? ⟨w2.heap.size, 2, none⟩ = some (.int .i64 (W : Int)) ∧ w'.cell? ⟨w13.heap.size, 0, none⟩ = some (.bool sn) ∧ w'.cell? ⟨w13.heap.size, 1, none⟩ = some (.slice V_rs v_rs v_rs) ∧ w'.cell? ⟨w13.heap.size, 2, none⟩ = some (.int .i64 se))
    ((first | (with_reducible exact ⟨zf.cells.1, zf.cells.2.1, zf.cells.2.2.1, zxs.cells.1, zxs.cells.2.1, zxs.cells.2.2.1⟩)))
    (first
      | (go_at_call 22
         (with_reducible refine (fneg_as hf ts hts ngs HNs.out _).mono ?_)
         rintro en w15 ⟨rfl, b⟩
         replace hT := hT.on b
         replace zf := zf.on b
         replace rs := rs.on b
         replace rp := rp.on b
         replace zxs := zxs.on b
         replace BW := Lib.hid (Below.step BW.out b)
         clear b)
      | (go_at_call 26
         (with_reducible refine (to_as hf (rs.arg (by omega)) (by omega) hT mode ngs HTs.out).mono ?_)
         rintro en w16 ⟨rfl, b⟩
         replace hT := hT.on b
         replace zf := zf.on b
         replace rs := rs.on b
         replace rp := rp.on b
         replace zxs := zxs.on b
         replace BW := Lib.hid (Below.step BW.out b)
         clear b))
  all_goals replace BW := BW.out
  obtain ⟨zfc0, zfc1, zfc2, zff0, zff1, zff2, zfl⟩ := zf.cells
  go_wp2_with fail
  refine (value_as hf ts hts hT HVs.out).mono ?_
  rintro en w17 ⟨V_rvs, v_rvs, rfl, rvs, b⟩
  clear zfc0 zfc1 zfc2 zff0 zff1 zff2 zfl
  replace hT := hT.on b
  replace zf := zf.on b
  replace rs := rs.on b
  replace rp := rp.on b
  replace zxs := zxs.on b
  replace BW := Below.step BW b
  clear b
  have lvs := res_n_le rvs (k := 128) hlvs
  obtain ⟨zfc0, zfc1, zfc2, zff0, zff1, zff2, zfl⟩ := zf.cells
  obtain ⟨zxsc0, zxsc1, zxsc2, zxsf0, zxsf1, zxsf2, zxsl⟩ := zxs.cells
  go_upto_region 26 with fail
  clear zfc0 zfc1 zfc2 zff0 zff1 zff2 zfl zxsc0 zxsc1 zxsc2 zxsf0 zxsf1 zxsf2 zxsl
  obtain ⟨w18, e_w18⟩ : ∃ w', w17.alloc (dob vsn V_rvs v_rvs v_rvs vse 39) = w' := ⟨_, rfl⟩
  have b : Below w17.heap.size w17 w18 := e_w18 ▸ below_lit _ _
  have hs_w18 : w18.heap.size = w17.heap.size + 1 := e_w18 ▸ size_lit w17 _ rfl
  have zvs : DB w18 w17.heap.size 39 vsn V_rvs v_rvs v_rvs vse := e_w18 ▸ DB.made w17 rfl 39 vsn V_rvs v_rvs v_rvs vse
  rw [e_w18]
  clear e_w18
  replace hT := hT.on b
  replace zf := zf.on b
  replace rs := rs.on b
  replace rp := rp.on b
  replace zxs := zxs.on b
  replace rvs := rvs.on b
  replace BW := Below.step BW b
  clear b
  clear hs_w18
  obtain ⟨zxsc0, zxsc1, zxsc2, zxsf0, zxsf1, zxsf2, zxsl⟩ := zxs.cells
  obtain ⟨zvsc0, zvsc1, zvsc2, zvsf0, zvsf1, zvsf2, zvsl⟩ := zvs.cells
  go_wp2_with fail
  refine (dsame_vl (rvs.arg (by omega)) (rs.arg (by omega)) (by omega) (by omega) hT mas mbs xs HXs.out).mono ?_
  rintro en w19 ⟨rfl, b⟩
  clear zxsc0 zxsc1 zxsc2 zxsf0 zxsf1 zxsf2 zxsl zvsc0 zvsc1 zvsc2 zvsf0 zvsf1 zvsf2 zvsl
  replace hT := hT.on b
  replace zf := zf.on b
  replace rs := rs.on b
  replace rp := rp.on b
  replace zxs := zxs.on b
  replace rvs := rvs.on b
  replace zvs := zvs.on b
  replace BW := Below.step BW b
  clear b
  go_wp2_with fail
  clear zxs zvs rvs
  rw [rounds_succ]
  obtain ⟨zfc0, zfc1, zfc2, zff0, zff1, zff2, zfl⟩ := zf.cells
  go_upto_region 24 with fail
  clear zfc0 zfc1 zfc2 zff0 zff1 zff2 zfl
  obtain ⟨w20, e_w20⟩ : ∃ w', w19.alloc (dob pn V_rp v_rp v_rp pe 39) = w' := ⟨_, rfl⟩
  have b : Below w19.heap.size w19 w20 := e_w20 ▸ below_lit _ _
  have hs_w20 : w20.heap.size = w19.heap.size + 1 := e_w20 ▸ size_lit w19 _ rfl
  have zxp : DB w20 w19.heap.size 39 pn V_rp v_rp v_rp pe := e_w20 ▸ DB.made w19 rfl 39 pn V_rp v_rp v_rp pe
  rw [e_w20]
  clear e_w20
  replace hT := hT.on b
  replace zf := zf.on b
  replace rs := rs.on b
  replace rp := rp.on b
  replace BW := Below.step BW b
  clear b
  clear hs_w20
  replace hT := hT.on ((Below.refl _ _).drew : Below w20.heap.size w20 w20.drew)
  replace zf := zf.on ((Below.refl _ _).drew : Below w20.heap.size w20 w20.drew)
  replace rs := rs.on ((Below.refl _ _).drew : Below w20.heap.size w20 w20.drew)
  replace rp := rp.on ((Below.refl _ _).drew : Below w20.heap.size w20 w20.drew)
  replace zxp := zxp.on ((Below.refl _ _).drew : Below w20.heap.size w20 w20.drew)
  replace BW := Lib.hid (Below.step BW ((Below.refl _ _).drew : Below w20.heap.size w20 w20.drew))
  go_region_held3 (fun w' => w'.cell? ⟨w2.heap.size, 0, none⟩ = some (.int .i64 (B : Int)) ∧ w'.cell? ⟨w2.heap.size, 1, none⟩ = some (.int .i64 (P : Int)) ∧ w'.cell? ⟨w2.heap.size, 2, none⟩ = some (.int .i64 (W : Int)) ∧ w'.cell? ⟨w19.heap.size, 0, none⟩ = some (.bool pn) ∧ w'.cell? ⟨w19.heap.size, 1, none⟩ = some (.slice V_rp v_rp v_rp) ∧ w'.cell? ⟨w19.heap.size, 2, none⟩ = some (.int .i64 pe))
    ((first | (with_reducible exact ⟨zf.cells.1, zf.cells.2.1, zf.cells.2.2.1, zxp.cells.1, zxp.cells.2.1, zxp.cells.2.2.1⟩)))
    (first
      | (go_at_call 22
         (with_reducible refine (fneg_as hf tp htp ngp HNp.out _).mono ?_)
         rintro en w21 ⟨rfl, b⟩
         replace hT := hT.on b
         replace zf := zf.on b
         replace rs := rs.on b
         replace rp := rp.on b
         replace zxp := zxp.on b
         replace BW := Lib.hid (Below.step BW.out b)
         clear b)
      | (go_at_call 26
         (with_reducible refine (to_as hf (rp.arg (by omega)) (by omega) hT mode ngp HTp.out).mono ?_)
         rintro en w22 ⟨rfl, b⟩
         replace hT := hT.on b
         replace zf := zf.on b
         replace rs := rs.on b
         replace rp := rp.on b
         replace zxp := zxp.on b
         replace BW := Lib.hid (Below.step BW.out b)
         clear b))
  all_goals replace BW := BW.out
  obtain ⟨zfc0, zfc1, zfc2, zff0, zff1, zff2, zfl⟩ := zf.cells
  go_wp2_with fail
  refine (value_as hf tp htp hT HVp.out).mono ?_
  rintro en w23 ⟨V_rvp, v_rvp, rfl, rvp, b⟩
  clear zfc0 zfc1 zfc2 zff0 zff1 zff2 zfl
  replace hT := hT.on b
  replace zf := zf.on b
  replace rs := rs.on b
  replace rp := rp.on b
  replace zxp := zxp.on b
  replace BW := Below.step BW b
  clear b
  have lvp := res_n_le rvp (k := 128) hlvp
  obtain ⟨zfc0, zfc1, zfc2, zff0, zff1, zff2, zfl⟩ := zf.cells
  obtain ⟨zxpc0, zxpc1, zxpc2, zxpf0, zxpf1, zxpf2, zxpl⟩ := zxp.cells
  go_upto_region 26 with fail
  clear zfc0 zfc1 zfc2 zff0 zff1 zff2 zfl zxpc0 zxpc1 zxpc2 zxpf0 zxpf1 zxpf2 zxpl
  obtain ⟨w24, e_w24⟩ : ∃ w', w23.alloc (dob vpn V_rvp v_rvp v_rvp vpe 39) = w' := ⟨_, rfl⟩
  have b : Below w23.heap.size w23 w24 := e_w24 ▸ below_lit _ _
  have hs_w24 : w24.heap.size = w23.heap.size + 1 := e_w24 ▸ size_lit w23 _ rfl
  have zvp : DB w24 w23.heap.size 39 vpn V_rvp v_rvp v_rvp vpe := e_w24 ▸ DB.made w23 rfl 39 vpn V_rvp v_rvp v_rvp vpe
  rw [e_w24]
  clear e_w24
  replace hT := hT.on b
  replace zf := zf.on b
  replace rs := rs.on b
  replace rp := rp.on b
  replace zxp := zxp.on b
  replace rvp := rvp.on b
  replace BW := Below.step BW b
  clear b
  clear hs_w24
  obtain ⟨zxpc0, zxpc1, zxpc2, zxpf0, zxpf1, zxpf2, zxpl⟩ := zxp.cells
  obtain ⟨zvpc0, zvpc1, zvpc2, zvpf0, zvpf1, zvpf2, zvpl⟩ := zvp.cells
  go_wp2_with fail
  clear zxpc0 zxpc1 zxpc2 zxpf0 zxpf1 zxpf2 zxpl zvpc0 zvpc1 zvpc2 zvpf0 zvpf1 zvpf2 zvpl
  clear zxp zvp rvp
  rw [rounds_succ]
  go_wp2_with fail
  go_ret
  exact ⟨rfl, BW⟩
set_option maxHeartbeats 4000000 in
set_option maxRecDepth 100000 in
theorem exact5_if {B P W M E H : Nat} {low : Int} (hf : Fm B P W M E H low) (mode : Int) (ba bb : Nat) (hba : ba < 18446744073709551616) (hbb : bb < 18446744073709551616) {w : World} (hT : Tab w) (hF : Frm w) (m1 : decide (mode < 0) = false) (m2 : decide (5 ≤ mode) = false) {an bn : Bool} {ax bx : Nat} {ae be : Int} (hva : valS M E H low ba = (⟨an, ax, ae⟩, 0)) (hvb : valS M E H low bb = (⟨bn, bx, be⟩, 0)) (hla : blen ax ≤ 4096) (hlb : blen bx ≤ 4096) {sn pn : Bool} {sx px : Nat} {se pe : Int} (hs : addS ⟨an, ax, ae⟩ ⟨bn, bx, be⟩ = (⟨sn, sx, se⟩, 0)) (hls : blen sx ≤ 4096) (hp : mulS ⟨an, ax, ae⟩ ⟨bn, bx, be⟩ = (⟨pn, px, pe⟩, 0)) (hlp : blen px ≤ 4096) {ts tp : Nat} {fs fp : Int} (r1 : addI P M E H low mode ba bb = (ts, fs, 0)) (r2 : mulI P M E H low mode ba bb = (tp, fp, 0)) (ngs : Bool) (hns : decide (ts / H % 2 = 1) = ngs) (hts : ts < 18446744073709551616) (hos : roundS P M E H low mode ⟨sn, sx, se⟩ ngs = (ts, fs, 0)) {vsn : Bool} {vsx : Nat} {vse ers : Int} (hvs : valS M E H low ts = (⟨vsn, vsx, vse⟩, ers)) (hlvs : blen vsx ≤ 4096) (eqs : (ers == 0) = false) (fxs : (bits BinOp.and IntKind.i64 fs 1 == 0) = false) (ngp : Bool) (hnp : decide (tp / H % 2 = 1) = ngp) (htp : tp < 18446744073709551616) (hop : roundS P M E H low mode ⟨pn, px, pe⟩ ngp = (tp, fp, 0)) {vpn : Bool} {vpx : Nat} {vpe erp : Int} (hvp : valS M E H low tp = (⟨vpn, vpx, vpe⟩, erp)) (hlvp : blen vpx ≤ 4096) (eqp : (erp == 0) = true) (map : D.may ⟨vpn, vpx, vpe⟩ = true) (mbp : D.may ⟨pn, px, pe⟩ = true) (xp : Bool) (hxp : decide (D.vl ⟨vpn, vpx, vpe⟩ = D.vl ⟨pn, px, pe⟩) = xp) (fxp : (bits BinOp.and IntKind.i64 fp 1 == 0) = xp)  :
    Calls Tryd.prog 5 #[.int .i64 (B : Int), .int .i64 mode, .int .u64 (ba : Int), .int .u64 (bb : Int)] w fun e w' => e = .returned (.bool true) ∧ Below w.heap.size w w' := by
  have HVA := Lib.hid hva
  have HVB := Lib.hid hvb
  clear hva hvb
  have HS := Lib.hid hs
  have HPR := Lib.hid hp
  have H1 := Lib.hid r1
  have H2 := Lib.hid r2
  clear hs hp r1 r2
  have HNs := Lib.hid hns
  have HTs := Lib.hid hos
  have HVs := Lib.hid hvs
  clear hns hos hvs
  have HNp := Lib.hid hnp
  have HTp := Lib.hid hop
  have HVp := Lib.hid hvp
  clear hnp hop hvp
  have HXp := Lib.hid hxp
  clear hxp
  go_enter Tryd.func5, Tryd.ntmps5
  go_wp2_with fail
  refine (awake5_any hT hF).mono ?_
  rintro en w1 ⟨rfl, b⟩
  replace hT := hT.on b
  replace hF := hF.on b
  have BW := b
  clear b
  go_wp2_with fail
  refine (of_fm hf _ hF).mono ?_
  rintro en w2 ⟨rfl, b⟩
  replace hT := hT.on b
  replace hF := hF.on b
  replace BW := Below.step BW b
  clear b
  go_upto_region 4 with fail
  obtain ⟨w3, e_w3⟩ : ∃ w', w2.alloc (.cells #[.int .i64 (B : Int), .int .i64 (P : Int), .int .i64 (W : Int)] 25) = w' := ⟨_, rfl⟩
  have b : Below w2.heap.size w2 w3 := e_w3 ▸ below_lit _ _
  have hs_w3 : w3.heap.size = w2.heap.size + 1 := e_w3 ▸ size_lit w2 _ rfl
  have zf : FB w3 w2.heap.size 25 (B : Int) (P : Int) (W : Int) := e_w3 ▸ FB.made_k w2 rfl 25 _ _ _
  rw [e_w3]
  clear e_w3
  replace hT := hT.on b
  replace hF := hF.on b
  replace BW := Below.step BW b
  clear b
  clear hs_w3
  clear hF
  obtain ⟨zfc0, zfc1, zfc2, zff0, zff1, zff2, zfl⟩ := zf.cells
  go_wp2_with fail
  refine (value_as hf ba hba hT HVA.out).mono ?_
  rintro en w4 ⟨V_ra, v_ra, rfl, ra, b⟩
  clear zfc0 zfc1 zfc2 zff0 zff1 zff2 zfl
  replace hT := hT.on b
  replace zf := zf.on b
  replace BW := Below.step BW b
  clear b
  obtain ⟨zfc0, zfc1, zfc2, zff0, zff1, zff2, zfl⟩ := zf.cells
  go_upto_region 7 with fail
  clear zfc0 zfc1 zfc2 zff0 zff1 zff2 zfl
  obtain ⟨w5, e_w5⟩ : ∃ w', w4.alloc (dob an V_ra v_ra v_ra ae 39) = w' := ⟨_, rfl⟩
  have b : Below w4.heap.size w4 w5 := e_w5 ▸ below_lit _ _
  have hs_w5 : w5.heap.size = w4.heap.size + 1 := e_w5 ▸ size_lit w4 _ rfl
  have za : DB w5 w4.heap.size 39 an V_ra v_ra v_ra ae := e_w5 ▸ DB.made w4 rfl 39 an V_ra v_ra v_ra ae
  rw [e_w5]
  clear e_w5
  replace hT := hT.on b
  replace zf := zf.on b
  replace ra := ra.on b
  replace BW := Below.step BW b
  clear b
  clear hs_w5
  obtain ⟨zfc0, zfc1, zfc2, zff0, zff1, zff2, zfl⟩ := zf.cells
  go_wp2_with fail
  refine (value_as hf bb hbb hT HVB.out).mono ?_
  rintro en w6 ⟨V_rb, v_rb, rfl, rb, b⟩
  clear zfc0 zfc1 zfc2 zff0 zff1 zff2 zfl
  replace hT := hT.on b
  replace zf := zf.on b
  replace ra := ra.on b
  replace za := za.on b
  replace BW := Below.step BW b
  clear b
  obtain ⟨zfc0, zfc1, zfc2, zff0, zff1, zff2, zfl⟩ := zf.cells
  go_upto_region 8 with fail
  clear zfc0 zfc1 zfc2 zff0 zff1 zff2 zfl
  obtain ⟨w7, e_w7⟩ : ∃ w', w6.alloc (dob bn V_rb v_rb v_rb be 39) = w' := ⟨_, rfl⟩
  have b : Below w6.heap.size w6 w7 := e_w7 ▸ below_lit _ _
  have hs_w7 : w7.heap.size = w6.heap.size + 1 := e_w7 ▸ size_lit w6 _ rfl
  have zb : DB w7 w6.heap.size 39 bn V_rb v_rb v_rb be := e_w7 ▸ DB.made w6 rfl 39 bn V_rb v_rb v_rb be
  rw [e_w7]
  clear e_w7
  replace hT := hT.on b
  replace zf := zf.on b
  replace ra := ra.on b
  replace za := za.on b
  replace rb := rb.on b
  replace BW := Below.step BW b
  clear b
  clear hs_w7
  obtain ⟨zfc0, zfc1, zfc2, zff0, zff1, zff2, zfl⟩ := zf.cells
  obtain ⟨zac0, zac1, zac2, zaf0, zaf1, zaf2, zal⟩ := za.cells
  obtain ⟨zbc0, zbc1, zbc2, zbf0, zbf1, zbf2, zbl⟩ := zb.cells
  go_wp2_with fail
  have la := res_n_le ra (k := 128) hla
  have lb := res_n_le rb (k := 128) hlb
  refine (dadd_as (ra.arg (by omega)) (rb.arg (by omega)) (by omega) (by omega) hT HS.out).mono ?_
  rintro en w8 ⟨V_rs, v_rs, rfl, rs, b⟩
  clear zfc0 zfc1 zfc2 zff0 zff1 zff2 zfl zac0 zac1 zac2 zaf0 zaf1 zaf2 zal zbc0 zbc1 zbc2 zbf0 zbf1 zbf2 zbl
  replace hT := hT.on b
  replace zf := zf.on b
  replace ra := ra.on b
  replace za := za.on b
  replace rb := rb.on b
  replace zb := zb.on b
  replace BW := Below.step BW b
  clear b
  have ls := res_n_le rs (k := 128) hls
  obtain ⟨zfc0, zfc1, zfc2, zff0, zff1, zff2, zfl⟩ := zf.cells
  obtain ⟨zac0, zac1, zac2, zaf0, zaf1, zaf2, zal⟩ := za.cells
  obtain ⟨zbc0, zbc1, zbc2, zbf0, zbf1, zbf2, zbl⟩ := zb.cells
  go_upto_region 11 with fail
  clear zfc0 zfc1 zfc2 zff0 zff1 zff2 zfl zac0 zac1 zac2 zaf0 zaf1 zaf2 zal zbc0 zbc1 zbc2 zbf0 zbf1 zbf2 zbl
  obtain ⟨w9, e_w9⟩ : ∃ w', w8.alloc (dob sn V_rs v_rs v_rs se 39) = w' := ⟨_, rfl⟩
  have b : Below w8.heap.size w8 w9 := e_w9 ▸ below_lit _ _
  have hs_w9 : w9.heap.size = w8.heap.size + 1 := e_w9 ▸ size_lit w8 _ rfl
  have zs : DB w9 w8.heap.size 39 sn V_rs v_rs v_rs se := e_w9 ▸ DB.made w8 rfl 39 sn V_rs v_rs v_rs se
  rw [e_w9]
  clear e_w9
  replace hT := hT.on b
  replace zf := zf.on b
  replace ra := ra.on b
  replace za := za.on b
  replace rb := rb.on b
  replace zb := zb.on b
  replace rs := rs.on b
  replace BW := Below.step BW b
  clear b
  clear hs_w9
  obtain ⟨zfc0, zfc1, zfc2, zff0, zff1, zff2, zfl⟩ := zf.cells
  obtain ⟨zac0, zac1, zac2, zaf0, zaf1, zaf2, zal⟩ := za.cells
  obtain ⟨zbc0, zbc1, zbc2, zbf0, zbf1, zbf2, zbl⟩ := zb.cells
  go_wp2_with fail
  refine (dmul_as (ra.arg (by omega)) (rb.arg (by omega)) (by omega) (by omega) hT HPR.out).mono ?_
  rintro en w10 ⟨V_rp, v_rp, rfl, rp, b⟩
  clear zfc0 zfc1 zfc2 zff0 zff1 zff2 zfl zac0 zac1 zac2 zaf0 zaf1 zaf2 zal zbc0 zbc1 zbc2 zbf0 zbf1 zbf2 zbl
  replace hT := hT.on b
  replace zf := zf.on b
  replace ra := ra.on b
  replace za := za.on b
  replace rb := rb.on b
  replace zb := zb.on b
  replace rs := rs.on b
  replace zs := zs.on b
  replace BW := Below.step BW b
  clear b
  have lp := res_n_le rp (k := 128) hlp
  obtain ⟨zfc0, zfc1, zfc2, zff0, zff1, zff2, zfl⟩ := zf.cells
  obtain ⟨zac0, zac1, zac2, zaf0, zaf1, zaf2, zal⟩ := za.cells
  obtain ⟨zbc0, zbc1, zbc2, zbf0, zbf1, zbf2, zbl⟩ := zb.cells
  obtain ⟨zsc0, zsc1, zsc2, zsf0, zsf1, zsf2, zsl⟩ := zs.cells
  go_upto_region 12 with fail
  clear zfc0 zfc1 zfc2 zff0 zff1 zff2 zfl zac0 zac1 zac2 zaf0 zaf1 zaf2 zal zbc0 zbc1 zbc2 zbf0 zbf1 zbf2 zbl zsc0 zsc1 zsc2 zsf0 zsf1 zsf2 zsl
  obtain ⟨w11, e_w11⟩ : ∃ w', w10.alloc (dob pn V_rp v_rp v_rp pe 39) = w' := ⟨_, rfl⟩
  have b : Below w10.heap.size w10 w11 := e_w11 ▸ below_lit _ _
  have hs_w11 : w11.heap.size = w10.heap.size + 1 := e_w11 ▸ size_lit w10 _ rfl
  have zp : DB w11 w10.heap.size 39 pn V_rp v_rp v_rp pe := e_w11 ▸ DB.made w10 rfl 39 pn V_rp v_rp v_rp pe
  rw [e_w11]
  clear e_w11
  replace hT := hT.on b
  replace zf := zf.on b
  replace ra := ra.on b
  replace za := za.on b
  replace rb := rb.on b
  replace zb := zb.on b
  replace rs := rs.on b
  replace zs := zs.on b
  replace rp := rp.on b
  replace BW := Below.step BW b
  clear b
  clear hs_w11
  clear za zb ra rb
  obtain ⟨zfc0, zfc1, zfc2, zff0, zff1, zff2, zfl⟩ := zf.cells
  obtain ⟨zsc0, zsc1, zsc2, zsf0, zsf1, zsf2, zsl⟩ := zs.cells
  obtain ⟨zpc0, zpc1, zpc2, zpf0, zpf1, zpf2, zpl⟩ := zp.cells
  go_wp2_with fail
  refine (add_as hf mode ba bb hba hbb hT H1.out).mono ?_
  rintro en w12 ⟨rfl, b⟩
  clear zfc0 zfc1 zfc2 zff0 zff1 zff2 zfl zsc0 zsc1 zsc2 zsf0 zsf1 zsf2 zsl zpc0 zpc1 zpc2 zpf0 zpf1 zpf2 zpl
  replace hT := hT.on b
  replace zf := zf.on b
  replace rs := rs.on b
  replace zs := zs.on b
  replace rp := rp.on b
  replace zp := zp.on b
  replace BW := Below.step BW b
  clear b
  obtain ⟨zfc0, zfc1, zfc2, zff0, zff1, zff2, zfl⟩ := zf.cells
  obtain ⟨zsc0, zsc1, zsc2, zsf0, zsf1, zsf2, zsl⟩ := zs.cells
  obtain ⟨zpc0, zpc1, zpc2, zpf0, zpf1, zpf2, zpl⟩ := zp.cells
  go_wp2_with fail
  refine (mul_as hf mode ba bb hba hbb hT H2.out).mono ?_
  rintro en w13 ⟨rfl, b⟩
  clear zfc0 zfc1 zfc2 zff0 zff1 zff2 zfl zsc0 zsc1 zsc2 zsf0 zsf1 zsf2 zsl zpc0 zpc1 zpc2 zpf0 zpf1 zpf2 zpl
  replace hT := hT.on b
  replace zf := zf.on b
  replace rs := rs.on b
  replace zs := zs.on b
  replace rp := rp.on b
  replace zp := zp.on b
  replace BW := Below.step BW b
  clear b
  obtain ⟨zfc0, zfc1, zfc2, zff0, zff1, zff2, zfl⟩ := zf.cells
  obtain ⟨zsc0, zsc1, zsc2, zsf0, zsf1, zsf2, zsl⟩ := zs.cells
  obtain ⟨zpc0, zpc1, zpc2, zpf0, zpf1, zpf2, zpl⟩ := zp.cells
  go_wp2_with fail
  have ix0 := two0 sn V_rs v_rs v_rs se pn V_rp v_rp v_rp pe
  have ix1 := two1 sn V_rs v_rs v_rs se pn V_rp v_rp v_rp pe
  clear zfc0 zfc1 zfc2 zff0 zff1 zff2 zfl zsc0 zsc1 zsc2 zsf0 zsf1 zsf2 zsl zpc0 zpc1 zpc2 zpf0 zpf1 zpf2 zpl
  clear zs zp
  refine wp_loop_rounds 3 ?_
  rw [rounds_succ]
  obtain ⟨zfc0, zfc1, zfc2, zff0, zff1, zff2, zfl⟩ := zf.cells
  go_upto_region 24 with fail
  clear zfc0 zfc1 zfc2 zff0 zff1 zff2 zfl
  obtain ⟨w14, e_w14⟩ : ∃ w', w13.alloc (dob sn V_rs v_rs v_rs se 39) = w' := ⟨_, rfl⟩
  have b : Below w13.heap.size w13 w14 := e_w14 ▸ below_lit _ _
  have hs_w14 : w14.heap.size = w13.heap.size + 1 := e_w14 ▸ size_lit w13 _ rfl
  have zxs : DB w14 w13.heap.size 39 sn V_rs v_rs v_rs se := e_w14 ▸ DB.made w13 rfl 39 sn V_rs v_rs v_rs se
  rw [e_w14]
  clear e_w14
  replace hT := hT.on b
  replace zf := zf.on b
  replace rs := rs.on b
  replace rp := rp.on b
  replace BW := Below.step BW b
  clear b
  clear hs_w14
  replace hT := hT.on ((Below.refl _ _).drew : Below w14.heap.size w14 w14.drew)
  replace zf := zf.on ((Below.refl _ _).drew : Below w14.heap.size w14 w14.drew)
  replace rs := rs.on ((Below.refl _ _).drew : Below w14.heap.size w14 w14.drew)
  replace rp := rp.on ((Below.refl _ _).drew : Below w14.heap.size w14 w14.drew)
  replace zxs := zxs.on ((Below.refl _ _).drew : Below w14.heap.size w14 w14.drew)
  replace BW := Lib.hid (Below.step BW ((Below.refl _ _).drew : Below w14.heap.size w14 w14.drew))
  go_region_held3 (fun w' => w'.cell? ⟨w2.heap.size, 0, none⟩ = some (.int .i64 (B : Int)) ∧ w'.cell? ⟨w2.heap.size, 1, none⟩ = some (.int .i64 (P : Int)) ∧ w'.cell? ⟨w2.heap.size, 2, none⟩ = some (.int .i64 (W : Int)) ∧ w'.cell? ⟨w13.heap.size, 0, none⟩ = some (.bool sn) ∧ w'.cell? ⟨w13.heap.size, 1, none⟩ = some (.slice V_rs v_rs v_rs) ∧ w'.cell? ⟨w13.heap.size, 2, none⟩ = some (.int .i64 se))
    ((first | (with_reducible exact ⟨zf.cells.1, zf.cells.2.1, zf.cells.2.2.1, zxs.cells.1, zxs.cells.2.1, zxs.cells.2.2.1⟩)))
    (first
      | (go_at_call 22
         (with_reducible refine (fneg_as hf ts hts ngs HNs.out _).mono ?_)
         rintro en w15 ⟨rfl, b⟩
         replace hT := hT.on b
         replace zf := zf.on b
         replace rs := rs.on b
         replace rp := rp.on b
         replace zxs := zxs.on b
         replace BW := Lib.hid (Below.step BW.out b)
         clear b)
      | (go_at_call 26
         (with_reducible refine (to_as hf (rs.arg (by omega)) (by omega) hT mode ngs HTs.out).mono ?_)
         rintro en w16 ⟨rfl, b⟩
         replace hT := hT.on b
         replace zf := zf.on b
         replace rs := rs.on b
         replace rp := rp.on b
         replace zxs := zxs.on b
         replace BW := Lib.hid (Below.step BW.out b)
         clear b))
  all_goals replace BW := BW.out
  obtain ⟨zfc0, zfc1, zfc2, zff0, zff1, zff2, zfl⟩ := zf.cells
  go_wp2_with fail
  refine (value_as hf ts hts hT HVs.out).mono ?_
  rintro en w17 ⟨V_rvs, v_rvs, rfl, rvs, b⟩
  clear zfc0 zfc1 zfc2 zff0 zff1 zff2 zfl
  replace hT := hT.on b
  replace zf := zf.on b
  replace rs := rs.on b
  replace rp := rp.on b
  replace zxs := zxs.on b
  replace BW := Below.step BW b
  clear b
  have lvs := res_n_le rvs (k := 128) hlvs
  obtain ⟨zfc0, zfc1, zfc2, zff0, zff1, zff2, zfl⟩ := zf.cells
  obtain ⟨zxsc0, zxsc1, zxsc2, zxsf0, zxsf1, zxsf2, zxsl⟩ := zxs.cells
  go_upto_region 26 with fail
  clear zfc0 zfc1 zfc2 zff0 zff1 zff2 zfl zxsc0 zxsc1 zxsc2 zxsf0 zxsf1 zxsf2 zxsl
  obtain ⟨w18, e_w18⟩ : ∃ w', w17.alloc (dob vsn V_rvs v_rvs v_rvs vse 39) = w' := ⟨_, rfl⟩
  have b : Below w17.heap.size w17 w18 := e_w18 ▸ below_lit _ _
  have hs_w18 : w18.heap.size = w17.heap.size + 1 := e_w18 ▸ size_lit w17 _ rfl
  have zvs : DB w18 w17.heap.size 39 vsn V_rvs v_rvs v_rvs vse := e_w18 ▸ DB.made w17 rfl 39 vsn V_rvs v_rvs v_rvs vse
  rw [e_w18]
  clear e_w18
  replace hT := hT.on b
  replace zf := zf.on b
  replace rs := rs.on b
  replace rp := rp.on b
  replace zxs := zxs.on b
  replace rvs := rvs.on b
  replace BW := Below.step BW b
  clear b
  clear hs_w18
  obtain ⟨zxsc0, zxsc1, zxsc2, zxsf0, zxsf1, zxsf2, zxsl⟩ := zxs.cells
  obtain ⟨zvsc0, zvsc1, zvsc2, zvsf0, zvsf1, zvsf2, zvsl⟩ := zvs.cells
  go_wp2_with fail
  clear zxsc0 zxsc1 zxsc2 zxsf0 zxsf1 zxsf2 zxsl zvsc0 zvsc1 zvsc2 zvsf0 zvsf1 zvsf2 zvsl
  clear zxs zvs rvs
  rw [rounds_succ]
  obtain ⟨zfc0, zfc1, zfc2, zff0, zff1, zff2, zfl⟩ := zf.cells
  go_upto_region 24 with fail
  clear zfc0 zfc1 zfc2 zff0 zff1 zff2 zfl
  obtain ⟨w19, e_w19⟩ : ∃ w', w18.alloc (dob pn V_rp v_rp v_rp pe 39) = w' := ⟨_, rfl⟩
  have b : Below w18.heap.size w18 w19 := e_w19 ▸ below_lit _ _
  have hs_w19 : w19.heap.size = w18.heap.size + 1 := e_w19 ▸ size_lit w18 _ rfl
  have zxp : DB w19 w18.heap.size 39 pn V_rp v_rp v_rp pe := e_w19 ▸ DB.made w18 rfl 39 pn V_rp v_rp v_rp pe
  rw [e_w19]
  clear e_w19
  replace hT := hT.on b
  replace zf := zf.on b
  replace rs := rs.on b
  replace rp := rp.on b
  replace BW := Below.step BW b
  clear b
  clear hs_w19
  replace hT := hT.on ((Below.refl _ _).drew : Below w19.heap.size w19 w19.drew)
  replace zf := zf.on ((Below.refl _ _).drew : Below w19.heap.size w19 w19.drew)
  replace rs := rs.on ((Below.refl _ _).drew : Below w19.heap.size w19 w19.drew)
  replace rp := rp.on ((Below.refl _ _).drew : Below w19.heap.size w19 w19.drew)
  replace zxp := zxp.on ((Below.refl _ _).drew : Below w19.heap.size w19 w19.drew)
  replace BW := Lib.hid (Below.step BW ((Below.refl _ _).drew : Below w19.heap.size w19 w19.drew))
  go_region_held3 (fun w' => w'.cell? ⟨w2.heap.size, 0, none⟩ = some (.int .i64 (B : Int)) ∧ w'.cell? ⟨w2.heap.size, 1, none⟩ = some (.int .i64 (P : Int)) ∧ w'.cell? ⟨w2.heap.size, 2, none⟩ = some (.int .i64 (W : Int)) ∧ w'.cell? ⟨w18.heap.size, 0, none⟩ = some (.bool pn) ∧ w'.cell? ⟨w18.heap.size, 1, none⟩ = some (.slice V_rp v_rp v_rp) ∧ w'.cell? ⟨w18.heap.size, 2, none⟩ = some (.int .i64 pe))
    ((first | (with_reducible exact ⟨zf.cells.1, zf.cells.2.1, zf.cells.2.2.1, zxp.cells.1, zxp.cells.2.1, zxp.cells.2.2.1⟩)))
    (first
      | (go_at_call 22
         (with_reducible refine (fneg_as hf tp htp ngp HNp.out _).mono ?_)
         rintro en w20 ⟨rfl, b⟩
         replace hT := hT.on b
         replace zf := zf.on b
         replace rs := rs.on b
         replace rp := rp.on b
         replace zxp := zxp.on b
         replace BW := Lib.hid (Below.step BW.out b)
         clear b)
      | (go_at_call 26
         (with_reducible refine (to_as hf (rp.arg (by omega)) (by omega) hT mode ngp HTp.out).mono ?_)
         rintro en w21 ⟨rfl, b⟩
         replace hT := hT.on b
         replace zf := zf.on b
         replace rs := rs.on b
         replace rp := rp.on b
         replace zxp := zxp.on b
         replace BW := Lib.hid (Below.step BW.out b)
         clear b))
  all_goals replace BW := BW.out
  obtain ⟨zfc0, zfc1, zfc2, zff0, zff1, zff2, zfl⟩ := zf.cells
  go_wp2_with fail
  refine (value_as hf tp htp hT HVp.out).mono ?_
  rintro en w22 ⟨V_rvp, v_rvp, rfl, rvp, b⟩
  clear zfc0 zfc1 zfc2 zff0 zff1 zff2 zfl
  replace hT := hT.on b
  replace zf := zf.on b
  replace rs := rs.on b
  replace rp := rp.on b
  replace zxp := zxp.on b
  replace BW := Below.step BW b
  clear b
  have lvp := res_n_le rvp (k := 128) hlvp
  obtain ⟨zfc0, zfc1, zfc2, zff0, zff1, zff2, zfl⟩ := zf.cells
  obtain ⟨zxpc0, zxpc1, zxpc2, zxpf0, zxpf1, zxpf2, zxpl⟩ := zxp.cells
  go_upto_region 26 with fail
  clear zfc0 zfc1 zfc2 zff0 zff1 zff2 zfl zxpc0 zxpc1 zxpc2 zxpf0 zxpf1 zxpf2 zxpl
  obtain ⟨w23, e_w23⟩ : ∃ w', w22.alloc (dob vpn V_rvp v_rvp v_rvp vpe 39) = w' := ⟨_, rfl⟩
  have b : Below w22.heap.size w22 w23 := e_w23 ▸ below_lit _ _
  have hs_w23 : w23.heap.size = w22.heap.size + 1 := e_w23 ▸ size_lit w22 _ rfl
  have zvp : DB w23 w22.heap.size 39 vpn V_rvp v_rvp v_rvp vpe := e_w23 ▸ DB.made w22 rfl 39 vpn V_rvp v_rvp v_rvp vpe
  rw [e_w23]
  clear e_w23
  replace hT := hT.on b
  replace zf := zf.on b
  replace rs := rs.on b
  replace rp := rp.on b
  replace zxp := zxp.on b
  replace rvp := rvp.on b
  replace BW := Below.step BW b
  clear b
  clear hs_w23
  obtain ⟨zxpc0, zxpc1, zxpc2, zxpf0, zxpf1, zxpf2, zxpl⟩ := zxp.cells
  obtain ⟨zvpc0, zvpc1, zvpc2, zvpf0, zvpf1, zvpf2, zvpl⟩ := zvp.cells
  go_wp2_with fail
  refine (dsame_vl (rvp.arg (by omega)) (rp.arg (by omega)) (by omega) (by omega) hT map mbp xp HXp.out).mono ?_
  rintro en w24 ⟨rfl, b⟩
  clear zxpc0 zxpc1 zxpc2 zxpf0 zxpf1 zxpf2 zxpl zvpc0 zvpc1 zvpc2 zvpf0 zvpf1 zvpf2 zvpl
  replace hT := hT.on b
  replace zf := zf.on b
  replace rs := rs.on b
  replace rp := rp.on b
  replace zxp := zxp.on b
  replace rvp := rvp.on b
  replace zvp := zvp.on b
  replace BW := Below.step BW b
  clear b
  go_wp2_with fail
  clear zxp zvp rvp
  rw [rounds_succ]
  go_wp2_with fail
  go_ret
  exact ⟨rfl, BW⟩
set_option maxHeartbeats 4000000 in
set_option maxRecDepth 100000 in
theorem exact5_ii {B P W M E H : Nat} {low : Int} (hf : Fm B P W M E H low) (mode : Int) (ba bb : Nat) (hba : ba < 18446744073709551616) (hbb : bb < 18446744073709551616) {w : World} (hT : Tab w) (hF : Frm w) (m1 : decide (mode < 0) = false) (m2 : decide (5 ≤ mode) = false) {an bn : Bool} {ax bx : Nat} {ae be : Int} (hva : valS M E H low ba = (⟨an, ax, ae⟩, 0)) (hvb : valS M E H low bb = (⟨bn, bx, be⟩, 0)) (hla : blen ax ≤ 4096) (hlb : blen bx ≤ 4096) {sn pn : Bool} {sx px : Nat} {se pe : Int} (hs : addS ⟨an, ax, ae⟩ ⟨bn, bx, be⟩ = (⟨sn, sx, se⟩, 0)) (hls : blen sx ≤ 4096) (hp : mulS ⟨an, ax, ae⟩ ⟨bn, bx, be⟩ = (⟨pn, px, pe⟩, 0)) (hlp : blen px ≤ 4096) {ts tp : Nat} {fs fp : Int} (r1 : addI P M E H low mode ba bb = (ts, fs, 0)) (r2 : mulI P M E H low mode ba bb = (tp, fp, 0)) (ngs : Bool) (hns : decide (ts / H % 2 = 1) = ngs) (hts : ts < 18446744073709551616) (hos : roundS P M E H low mode ⟨sn, sx, se⟩ ngs = (ts, fs, 0)) {vsn : Bool} {vsx : Nat} {vse ers : Int} (hvs : valS M E H low ts = (⟨vsn, vsx, vse⟩, ers)) (hlvs : blen vsx ≤ 4096) (eqs : (ers == 0) = false) (fxs : (bits BinOp.and IntKind.i64 fs 1 == 0) = false) (ngp : Bool) (hnp : decide (tp / H % 2 = 1) = ngp) (htp : tp < 18446744073709551616) (hop : roundS P M E H low mode ⟨pn, px, pe⟩ ngp = (tp, fp, 0)) {vpn : Bool} {vpx : Nat} {vpe erp : Int} (hvp : valS M E H low tp = (⟨vpn, vpx, vpe⟩, erp)) (hlvp : blen vpx ≤ 4096) (eqp : (erp == 0) = false) (fxp : (bits BinOp.and IntKind.i64 fp 1 == 0) = false)  :
    Calls Tryd.prog 5 #[.int .i64 (B : Int), .int .i64 mode, .int .u64 (ba : Int), .int .u64 (bb : Int)] w fun e w' => e = .returned (.bool true) ∧ Below w.heap.size w w' := by
  have HVA := Lib.hid hva
  have HVB := Lib.hid hvb
  clear hva hvb
  have HS := Lib.hid hs
  have HPR := Lib.hid hp
  have H1 := Lib.hid r1
  have H2 := Lib.hid r2
  clear hs hp r1 r2
  have HNs := Lib.hid hns
  have HTs := Lib.hid hos
  have HVs := Lib.hid hvs
  clear hns hos hvs
  have HNp := Lib.hid hnp
  have HTp := Lib.hid hop
  have HVp := Lib.hid hvp
  clear hnp hop hvp
  go_enter Tryd.func5, Tryd.ntmps5
  go_wp2_with fail
  refine (awake5_any hT hF).mono ?_
  rintro en w1 ⟨rfl, b⟩
  replace hT := hT.on b
  replace hF := hF.on b
  have BW := b
  clear b
  go_wp2_with fail
  refine (of_fm hf _ hF).mono ?_
  rintro en w2 ⟨rfl, b⟩
  replace hT := hT.on b
  replace hF := hF.on b
  replace BW := Below.step BW b
  clear b
  go_upto_region 4 with fail
  obtain ⟨w3, e_w3⟩ : ∃ w', w2.alloc (.cells #[.int .i64 (B : Int), .int .i64 (P : Int), .int .i64 (W : Int)] 25) = w' := ⟨_, rfl⟩
  have b : Below w2.heap.size w2 w3 := e_w3 ▸ below_lit _ _
  have hs_w3 : w3.heap.size = w2.heap.size + 1 := e_w3 ▸ size_lit w2 _ rfl
  have zf : FB w3 w2.heap.size 25 (B : Int) (P : Int) (W : Int) := e_w3 ▸ FB.made_k w2 rfl 25 _ _ _
  rw [e_w3]
  clear e_w3
  replace hT := hT.on b
  replace hF := hF.on b
  replace BW := Below.step BW b
  clear b
  clear hs_w3
  clear hF
  obtain ⟨zfc0, zfc1, zfc2, zff0, zff1, zff2, zfl⟩ := zf.cells
  go_wp2_with fail
  refine (value_as hf ba hba hT HVA.out).mono ?_
  rintro en w4 ⟨V_ra, v_ra, rfl, ra, b⟩
  clear zfc0 zfc1 zfc2 zff0 zff1 zff2 zfl
  replace hT := hT.on b
  replace zf := zf.on b
  replace BW := Below.step BW b
  clear b
  obtain ⟨zfc0, zfc1, zfc2, zff0, zff1, zff2, zfl⟩ := zf.cells
  go_upto_region 7 with fail
  clear zfc0 zfc1 zfc2 zff0 zff1 zff2 zfl
  obtain ⟨w5, e_w5⟩ : ∃ w', w4.alloc (dob an V_ra v_ra v_ra ae 39) = w' := ⟨_, rfl⟩
  have b : Below w4.heap.size w4 w5 := e_w5 ▸ below_lit _ _
  have hs_w5 : w5.heap.size = w4.heap.size + 1 := e_w5 ▸ size_lit w4 _ rfl
  have za : DB w5 w4.heap.size 39 an V_ra v_ra v_ra ae := e_w5 ▸ DB.made w4 rfl 39 an V_ra v_ra v_ra ae
  rw [e_w5]
  clear e_w5
  replace hT := hT.on b
  replace zf := zf.on b
  replace ra := ra.on b
  replace BW := Below.step BW b
  clear b
  clear hs_w5
  obtain ⟨zfc0, zfc1, zfc2, zff0, zff1, zff2, zfl⟩ := zf.cells
  go_wp2_with fail
  refine (value_as hf bb hbb hT HVB.out).mono ?_
  rintro en w6 ⟨V_rb, v_rb, rfl, rb, b⟩
  clear zfc0 zfc1 zfc2 zff0 zff1 zff2 zfl
  replace hT := hT.on b
  replace zf := zf.on b
  replace ra := ra.on b
  replace za := za.on b
  replace BW := Below.step BW b
  clear b
  obtain ⟨zfc0, zfc1, zfc2, zff0, zff1, zff2, zfl⟩ := zf.cells
  go_upto_region 8 with fail
  clear zfc0 zfc1 zfc2 zff0 zff1 zff2 zfl
  obtain ⟨w7, e_w7⟩ : ∃ w', w6.alloc (dob bn V_rb v_rb v_rb be 39) = w' := ⟨_, rfl⟩
  have b : Below w6.heap.size w6 w7 := e_w7 ▸ below_lit _ _
  have hs_w7 : w7.heap.size = w6.heap.size + 1 := e_w7 ▸ size_lit w6 _ rfl
  have zb : DB w7 w6.heap.size 39 bn V_rb v_rb v_rb be := e_w7 ▸ DB.made w6 rfl 39 bn V_rb v_rb v_rb be
  rw [e_w7]
  clear e_w7
  replace hT := hT.on b
  replace zf := zf.on b
  replace ra := ra.on b
  replace za := za.on b
  replace rb := rb.on b
  replace BW := Below.step BW b
  clear b
  clear hs_w7
  obtain ⟨zfc0, zfc1, zfc2, zff0, zff1, zff2, zfl⟩ := zf.cells
  obtain ⟨zac0, zac1, zac2, zaf0, zaf1, zaf2, zal⟩ := za.cells
  obtain ⟨zbc0, zbc1, zbc2, zbf0, zbf1, zbf2, zbl⟩ := zb.cells
  go_wp2_with fail
  have la := res_n_le ra (k := 128) hla
  have lb := res_n_le rb (k := 128) hlb
  refine (dadd_as (ra.arg (by omega)) (rb.arg (by omega)) (by omega) (by omega) hT HS.out).mono ?_
  rintro en w8 ⟨V_rs, v_rs, rfl, rs, b⟩
  clear zfc0 zfc1 zfc2 zff0 zff1 zff2 zfl zac0 zac1 zac2 zaf0 zaf1 zaf2 zal zbc0 zbc1 zbc2 zbf0 zbf1 zbf2 zbl
  replace hT := hT.on b
  replace zf := zf.on b
  replace ra := ra.on b
  replace za := za.on b
  replace rb := rb.on b
  replace zb := zb.on b
  replace BW := Below.step BW b
  clear b
  have ls := res_n_le rs (k := 128) hls
  obtain ⟨zfc0, zfc1, zfc2, zff0, zff1, zff2, zfl⟩ := zf.cells
  obtain ⟨zac0, zac1, zac2, zaf0, zaf1, zaf2, zal⟩ := za.cells
  obtain ⟨zbc0, zbc1, zbc2, zbf0, zbf1, zbf2, zbl⟩ := zb.cells
  go_upto_region 11 with fail
  clear zfc0 zfc1 zfc2 zff0 zff1 zff2 zfl zac0 zac1 zac2 zaf0 zaf1 zaf2 zal zbc0 zbc1 zbc2 zbf0 zbf1 zbf2 zbl
  obtain ⟨w9, e_w9⟩ : ∃ w', w8.alloc (dob sn V_rs v_rs v_rs se 39) = w' := ⟨_, rfl⟩
  have b : Below w8.heap.size w8 w9 := e_w9 ▸ below_lit _ _
  have hs_w9 : w9.heap.size = w8.heap.size + 1 := e_w9 ▸ size_lit w8 _ rfl
  have zs : DB w9 w8.heap.size 39 sn V_rs v_rs v_rs se := e_w9 ▸ DB.made w8 rfl 39 sn V_rs v_rs v_rs se
  rw [e_w9]
  clear e_w9
  replace hT := hT.on b
  replace zf := zf.on b
  replace ra := ra.on b
  replace za := za.on b
  replace rb := rb.on b
  replace zb := zb.on b
  replace rs := rs.on b
  replace BW := Below.step BW b
  clear b
  clear hs_w9
  obtain ⟨zfc0, zfc1, zfc2, zff0, zff1, zff2, zfl⟩ := zf.cells
  obtain ⟨zac0, zac1, zac2, zaf0, zaf1, zaf2, zal⟩ := za.cells
  obtain ⟨zbc0, zbc1, zbc2, zbf0, zbf1, zbf2, zbl⟩ := zb.cells
  go_wp2_with fail
  refine (dmul_as (ra.arg (by omega)) (rb.arg (by omega)) (by omega) (by omega) hT HPR.out).mono ?_
  rintro en w10 ⟨V_rp, v_rp, rfl, rp, b⟩
  clear zfc0 zfc1 zfc2 zff0 zff1 zff2 zfl zac0 zac1 zac2 zaf0 zaf1 zaf2 zal zbc0 zbc1 zbc2 zbf0 zbf1 zbf2 zbl
  replace hT := hT.on b
  replace zf := zf.on b
  replace ra := ra.on b
  replace za := za.on b
  replace rb := rb.on b
  replace zb := zb.on b
  replace rs := rs.on b
  replace zs := zs.on b
  replace BW := Below.step BW b
  clear b
  have lp := res_n_le rp (k := 128) hlp
  obtain ⟨zfc0, zfc1, zfc2, zff0, zff1, zff2, zfl⟩ := zf.cells
  obtain ⟨zac0, zac1, zac2, zaf0, zaf1, zaf2, zal⟩ := za.cells
  obtain ⟨zbc0, zbc1, zbc2, zbf0, zbf1, zbf2, zbl⟩ := zb.cells
  obtain ⟨zsc0, zsc1, zsc2, zsf0, zsf1, zsf2, zsl⟩ := zs.cells
  go_upto_region 12 with fail
  clear zfc0 zfc1 zfc2 zff0 zff1 zff2 zfl zac0 zac1 zac2 zaf0 zaf1 zaf2 zal zbc0 zbc1 zbc2 zbf0 zbf1 zbf2 zbl zsc0 zsc1 zsc2 zsf0 zsf1 zsf2 zsl
  obtain ⟨w11, e_w11⟩ : ∃ w', w10.alloc (dob pn V_rp v_rp v_rp pe 39) = w' := ⟨_, rfl⟩
  have b : Below w10.heap.size w10 w11 := e_w11 ▸ below_lit _ _
  have hs_w11 : w11.heap.size = w10.heap.size + 1 := e_w11 ▸ size_lit w10 _ rfl
  have zp : DB w11 w10.heap.size 39 pn V_rp v_rp v_rp pe := e_w11 ▸ DB.made w10 rfl 39 pn V_rp v_rp v_rp pe
  rw [e_w11]
  clear e_w11
  replace hT := hT.on b
  replace zf := zf.on b
  replace ra := ra.on b
  replace za := za.on b
  replace rb := rb.on b
  replace zb := zb.on b
  replace rs := rs.on b
  replace zs := zs.on b
  replace rp := rp.on b
  replace BW := Below.step BW b
  clear b
  clear hs_w11
  clear za zb ra rb
  obtain ⟨zfc0, zfc1, zfc2, zff0, zff1, zff2, zfl⟩ := zf.cells
  obtain ⟨zsc0, zsc1, zsc2, zsf0, zsf1, zsf2, zsl⟩ := zs.cells
  obtain ⟨zpc0, zpc1, zpc2, zpf0, zpf1, zpf2, zpl⟩ := zp.cells
  go_wp2_with fail
  refine (add_as hf mode ba bb hba hbb hT H1.out).mono ?_
  rintro en w12 ⟨rfl, b⟩
  clear zfc0 zfc1 zfc2 zff0 zff1 zff2 zfl zsc0 zsc1 zsc2 zsf0 zsf1 zsf2 zsl zpc0 zpc1 zpc2 zpf0 zpf1 zpf2 zpl
  replace hT := hT.on b
  replace zf := zf.on b
  replace rs := rs.on b
  replace zs := zs.on b
  replace rp := rp.on b
  replace zp := zp.on b
  replace BW := Below.step BW b
  clear b
  obtain ⟨zfc0, zfc1, zfc2, zff0, zff1, zff2, zfl⟩ := zf.cells
  obtain ⟨zsc0, zsc1, zsc2, zsf0, zsf1, zsf2, zsl⟩ := zs.cells
  obtain ⟨zpc0, zpc1, zpc2, zpf0, zpf1, zpf2, zpl⟩ := zp.cells
  go_wp2_with fail
  refine (mul_as hf mode ba bb hba hbb hT H2.out).mono ?_
  rintro en w13 ⟨rfl, b⟩
  clear zfc0 zfc1 zfc2 zff0 zff1 zff2 zfl zsc0 zsc1 zsc2 zsf0 zsf1 zsf2 zsl zpc0 zpc1 zpc2 zpf0 zpf1 zpf2 zpl
  replace hT := hT.on b
  replace zf := zf.on b
  replace rs := rs.on b
  replace zs := zs.on b
  replace rp := rp.on b
  replace zp := zp.on b
  replace BW := Below.step BW b
  clear b
  obtain ⟨zfc0, zfc1, zfc2, zff0, zff1, zff2, zfl⟩ := zf.cells
  obtain ⟨zsc0, zsc1, zsc2, zsf0, zsf1, zsf2, zsl⟩ := zs.cells
  obtain ⟨zpc0, zpc1, zpc2, zpf0, zpf1, zpf2, zpl⟩ := zp.cells
  go_wp2_with fail
  have ix0 := two0 sn V_rs v_rs v_rs se pn V_rp v_rp v_rp pe
  have ix1 := two1 sn V_rs v_rs v_rs se pn V_rp v_rp v_rp pe
  clear zfc0 zfc1 zfc2 zff0 zff1 zff2 zfl zsc0 zsc1 zsc2 zsf0 zsf1 zsf2 zsl zpc0 zpc1 zpc2 zpf0 zpf1 zpf2 zpl
  clear zs zp
  refine wp_loop_rounds 3 ?_
  rw [rounds_succ]
  obtain ⟨zfc0, zfc1, zfc2, zff0, zff1, zff2, zfl⟩ := zf.cells
  go_upto_region 24 with fail
  clear zfc0 zfc1 zfc2 zff0 zff1 zff2 zfl
  obtain ⟨w14, e_w14⟩ : ∃ w', w13.alloc (dob sn V_rs v_rs v_rs se 39) = w' := ⟨_, rfl⟩
  have b : Below w13.heap.size w13 w14 := e_w14 ▸ below_lit _ _
  have hs_w14 : w14.heap.size = w13.heap.size + 1 := e_w14 ▸ size_lit w13 _ rfl
  have zxs : DB w14 w13.heap.size 39 sn V_rs v_rs v_rs se := e_w14 ▸ DB.made w13 rfl 39 sn V_rs v_rs v_rs se
  rw [e_w14]
  clear e_w14
  replace hT := hT.on b
  replace zf := zf.on b
  replace rs := rs.on b
  replace rp := rp.on b
  replace BW := Below.step BW b
  clear b
  clear hs_w14
  replace hT := hT.on ((Below.refl _ _).drew : Below w14.heap.size w14 w14.drew)
  replace zf := zf.on ((Below.refl _ _).drew : Below w14.heap.size w14 w14.drew)
  replace rs := rs.on ((Below.refl _ _).drew : Below w14.heap.size w14 w14.drew)
  replace rp := rp.on ((Below.refl _ _).drew : Below w14.heap.size w14 w14.drew)
  replace zxs := zxs.on ((Below.refl _ _).drew : Below w14.heap.size w14 w14.drew)
  replace BW := Lib.hid (Below.step BW ((Below.refl _ _).drew : Below w14.heap.size w14 w14.drew))
  go_region_held3 (fun w' => w'.cell? ⟨w2.heap.size, 0, none⟩ = some (.int .i64 (B : Int)) ∧ w'.cell? ⟨w2.heap.size, 1, none⟩ = some (.int .i64 (P : Int)) ∧ w'.cell? ⟨w2.heap.size, 2, none⟩ = some (.int .i64 (W : Int)) ∧ w'.cell? ⟨w13.heap.size, 0, none⟩ = some (.bool sn) ∧ w'.cell? ⟨w13.heap.size, 1, none⟩ = some (.slice V_rs v_rs v_rs) ∧ w'.cell? ⟨w13.heap.size, 2, none⟩ = some (.int .i64 se))
    ((first | (with_reducible exact ⟨zf.cells.1, zf.cells.2.1, zf.cells.2.2.1, zxs.cells.1, zxs.cells.2.1, zxs.cells.2.2.1⟩)))
    (first
      | (go_at_call 22
         (with_reducible refine (fneg_as hf ts hts ngs HNs.out _).mono ?_)
         rintro en w15 ⟨rfl, b⟩
         replace hT := hT.on b
         replace zf := zf.on b
         replace rs := rs.on b
         replace rp := rp.on b
         replace zxs := zxs.on b
         replace BW := Lib.hid (Below.step BW.out b)
         clear b)
      | (go_at_call 26
         (with_reducible refine (to_as hf (rs.arg (by omega)) (by omega) hT mode ngs HTs.out).mono ?_)
         rintro en w16 ⟨rfl, b⟩
         replace hT := hT.on b
         replace zf := zf.on b
         replace rs := rs.on b
         replace rp := rp.on b
         replace zxs := zxs.on b
         replace BW := Lib.hid (Below.step BW.out b)
         clear b))
  all_goals replace BW := BW.out
  obtain ⟨zfc0, zfc1, zfc2, zff0, zff1, zff2, zfl⟩ := zf.cells
  go_wp2_with fail
  refine (value_as hf ts hts hT HVs.out).mono ?_
  rintro en w17 ⟨V_rvs, v_rvs, rfl, rvs, b⟩
  clear zfc0 zfc1 zfc2 zff0 zff1 zff2 zfl
  replace hT := hT.on b
  replace zf := zf.on b
  replace rs := rs.on b
  replace rp := rp.on b
  replace zxs := zxs.on b
  replace BW := Below.step BW b
  clear b
  have lvs := res_n_le rvs (k := 128) hlvs
  obtain ⟨zfc0, zfc1, zfc2, zff0, zff1, zff2, zfl⟩ := zf.cells
  obtain ⟨zxsc0, zxsc1, zxsc2, zxsf0, zxsf1, zxsf2, zxsl⟩ := zxs.cells
  go_upto_region 26 with fail
  clear zfc0 zfc1 zfc2 zff0 zff1 zff2 zfl zxsc0 zxsc1 zxsc2 zxsf0 zxsf1 zxsf2 zxsl
  obtain ⟨w18, e_w18⟩ : ∃ w', w17.alloc (dob vsn V_rvs v_rvs v_rvs vse 39) = w' := ⟨_, rfl⟩
  have b : Below w17.heap.size w17 w18 := e_w18 ▸ below_lit _ _
  have hs_w18 : w18.heap.size = w17.heap.size + 1 := e_w18 ▸ size_lit w17 _ rfl
  have zvs : DB w18 w17.heap.size 39 vsn V_rvs v_rvs v_rvs vse := e_w18 ▸ DB.made w17 rfl 39 vsn V_rvs v_rvs v_rvs vse
  rw [e_w18]
  clear e_w18
  replace hT := hT.on b
  replace zf := zf.on b
  replace rs := rs.on b
  replace rp := rp.on b
  replace zxs := zxs.on b
  replace rvs := rvs.on b
  replace BW := Below.step BW b
  clear b
  clear hs_w18
  obtain ⟨zxsc0, zxsc1, zxsc2, zxsf0, zxsf1, zxsf2, zxsl⟩ := zxs.cells
  obtain ⟨zvsc0, zvsc1, zvsc2, zvsf0, zvsf1, zvsf2, zvsl⟩ := zvs.cells
  go_wp2_with fail
  clear zxsc0 zxsc1 zxsc2 zxsf0 zxsf1 zxsf2 zxsl zvsc0 zvsc1 zvsc2 zvsf0 zvsf1 zvsf2 zvsl
  clear zxs zvs rvs
  rw [rounds_succ]
  obtain ⟨zfc0, zfc1, zfc2, zff0, zff1, zff2, zfl⟩ := zf.cells
  go_upto_region 24 with fail
  clear zfc0 zfc1 zfc2 zff0 zff1 zff2 zfl
  obtain ⟨w19, e_w19⟩ : ∃ w', w18.alloc (dob pn V_rp v_rp v_rp pe 39) = w' := ⟨_, rfl⟩
  have b : Below w18.heap.size w18 w19 := e_w19 ▸ below_lit _ _
  have hs_w19 : w19.heap.size = w18.heap.size + 1 := e_w19 ▸ size_lit w18 _ rfl
  have zxp : DB w19 w18.heap.size 39 pn V_rp v_rp v_rp pe := e_w19 ▸ DB.made w18 rfl 39 pn V_rp v_rp v_rp pe
  rw [e_w19]
  clear e_w19
  replace hT := hT.on b
  replace zf := zf.on b
  replace rs := rs.on b
  replace rp := rp.on b
  replace BW := Below.step BW b
  clear b
  clear hs_w19
  replace hT := hT.on ((Below.refl _ _).drew : Below w19.heap.size w19 w19.drew)
  replace zf := zf.on ((Below.refl _ _).drew : Below w19.heap.size w19 w19.drew)
  replace rs := rs.on ((Below.refl _ _).drew : Below w19.heap.size w19 w19.drew)
  replace rp := rp.on ((Below.refl _ _).drew : Below w19.heap.size w19 w19.drew)
  replace zxp := zxp.on ((Below.refl _ _).drew : Below w19.heap.size w19 w19.drew)
  replace BW := Lib.hid (Below.step BW ((Below.refl _ _).drew : Below w19.heap.size w19 w19.drew))
  go_region_held3 (fun w' => w'.cell? ⟨w2.heap.size, 0, none⟩ = some (.int .i64 (B : Int)) ∧ w'.cell? ⟨w2.heap.size, 1, none⟩ = some (.int .i64 (P : Int)) ∧ w'.cell? ⟨w2.heap.size, 2, none⟩ = some (.int .i64 (W : Int)) ∧ w'.cell? ⟨w18.heap.size, 0, none⟩ = some (.bool pn) ∧ w'.cell? ⟨w18.heap.size, 1, none⟩ = some (.slice V_rp v_rp v_rp) ∧ w'.cell? ⟨w18.heap.size, 2, none⟩ = some (.int .i64 pe))
    ((first | (with_reducible exact ⟨zf.cells.1, zf.cells.2.1, zf.cells.2.2.1, zxp.cells.1, zxp.cells.2.1, zxp.cells.2.2.1⟩)))
    (first
      | (go_at_call 22
         (with_reducible refine (fneg_as hf tp htp ngp HNp.out _).mono ?_)
         rintro en w20 ⟨rfl, b⟩
         replace hT := hT.on b
         replace zf := zf.on b
         replace rs := rs.on b
         replace rp := rp.on b
         replace zxp := zxp.on b
         replace BW := Lib.hid (Below.step BW.out b)
         clear b)
      | (go_at_call 26
         (with_reducible refine (to_as hf (rp.arg (by omega)) (by omega) hT mode ngp HTp.out).mono ?_)
         rintro en w21 ⟨rfl, b⟩
         replace hT := hT.on b
         replace zf := zf.on b
         replace rs := rs.on b
         replace rp := rp.on b
         replace zxp := zxp.on b
         replace BW := Lib.hid (Below.step BW.out b)
         clear b))
  all_goals replace BW := BW.out
  obtain ⟨zfc0, zfc1, zfc2, zff0, zff1, zff2, zfl⟩ := zf.cells
  go_wp2_with fail
  refine (value_as hf tp htp hT HVp.out).mono ?_
  rintro en w22 ⟨V_rvp, v_rvp, rfl, rvp, b⟩
  clear zfc0 zfc1 zfc2 zff0 zff1 zff2 zfl
  replace hT := hT.on b
  replace zf := zf.on b
  replace rs := rs.on b
  replace rp := rp.on b
  replace zxp := zxp.on b
  replace BW := Below.step BW b
  clear b
  have lvp := res_n_le rvp (k := 128) hlvp
  obtain ⟨zfc0, zfc1, zfc2, zff0, zff1, zff2, zfl⟩ := zf.cells
  obtain ⟨zxpc0, zxpc1, zxpc2, zxpf0, zxpf1, zxpf2, zxpl⟩ := zxp.cells
  go_upto_region 26 with fail
  clear zfc0 zfc1 zfc2 zff0 zff1 zff2 zfl zxpc0 zxpc1 zxpc2 zxpf0 zxpf1 zxpf2 zxpl
  obtain ⟨w23, e_w23⟩ : ∃ w', w22.alloc (dob vpn V_rvp v_rvp v_rvp vpe 39) = w' := ⟨_, rfl⟩
  have b : Below w22.heap.size w22 w23 := e_w23 ▸ below_lit _ _
  have hs_w23 : w23.heap.size = w22.heap.size + 1 := e_w23 ▸ size_lit w22 _ rfl
  have zvp : DB w23 w22.heap.size 39 vpn V_rvp v_rvp v_rvp vpe := e_w23 ▸ DB.made w22 rfl 39 vpn V_rvp v_rvp v_rvp vpe
  rw [e_w23]
  clear e_w23
  replace hT := hT.on b
  replace zf := zf.on b
  replace rs := rs.on b
  replace rp := rp.on b
  replace zxp := zxp.on b
  replace rvp := rvp.on b
  replace BW := Below.step BW b
  clear b
  clear hs_w23
  obtain ⟨zxpc0, zxpc1, zxpc2, zxpf0, zxpf1, zxpf2, zxpl⟩ := zxp.cells
  obtain ⟨zvpc0, zvpc1, zvpc2, zvpf0, zvpf1, zvpf2, zvpl⟩ := zvp.cells
  go_wp2_with fail
  clear zxpc0 zxpc1 zxpc2 zxpf0 zxpf1 zxpf2 zxpl zvpc0 zvpc1 zvpc2 zvpf0 zvpf1 zvpf2 zvpl
  clear zxp zvp rvp
  rw [rounds_succ]
  go_wp2_with fail
  go_ret
  exact ⟨rfl, BW⟩
theorem val_zero_err {M E H : Nat} {low : Int} {b : Nat} {d : D} (h : valS M E H low b = (d, 0)) : b < 2 * H ∧ b / M % (E + 1) ≠ E := by
  unfold valS at h
  by_cases h1 : b < 2 * H
  · rw [if_pos h1] at h
    by_cases h2 : b / M % (E + 1) = E
    · rw [if_pos h2] at h
      simp at h
    · exact ⟨h1, h2⟩
  · rw [if_neg h1] at h
    simp at h
theorem mayR_may {d : D} (h : mayR d = true) : d.may = true := by
  unfold mayR at h
  rw [Bool.and_eq_true] at h
  exact h.1
theorem exact5_walk (bits : Int) (mode : Int) (ba : Nat) (hba : ba < 18446744073709551616) (bb : Nat) (hbb : bb < 18446744073709551616) {w : World} (hT : Tab w) (hF : Frm w) :
    Calls Tryd.prog 5 #[.int .i64 bits, .int .i64 mode, .int .u64 (ba : Int), .int .u64 (bb : Int)] w fun e w' => e = .returned (.bool true) ∧ Below w.heap.size w w' := by
  rcases fm_of bits with ⟨B, P, W, M, E, H, low, hf, rfl⟩ | ⟨h1, h2, h3⟩
  · have hbd := hf.bd
    by_cases m1 : mode < 0
    · exact exact5_m1 hf mode ba bb hba hbb hT hF (decide_eq_true m1)
    by_cases m2 : 5 ≤ mode
    · exact exact5_m2 hf mode ba bb hba hbb hT hF (decide_eq_false m1) (decide_eq_true m2)
    have hm : 0 ≤ mode ∧ mode ≤ 4 := by omega
    have k1 := decide_eq_false m1
    have k2 := decide_eq_false m2
    obtain ⟨⟨⟨an, ax, ae⟩, ea⟩, hva⟩ : ∃ r, valS M E H low ba = r := ⟨_, rfl⟩
    obtain ⟨⟨⟨bn, bx, be⟩, eb⟩, hvb⟩ : ∃ r, valS M E H low bb = r := ⟨_, rfl⟩
    by_cases ha : ea ≠ 0
    · exact exact5_va hf mode ba bb hba hbb hT hF k1 k2 hva hvb (by simpa using ha)
    obtain rfl : ea = 0 := by omega
    by_cases hb : eb ≠ 0
    · exact exact5_vb hf mode ba bb hba hbb hT hF k1 k2 hva hvb rfl (by simpa using hb)
    obtain rfl : eb = 0 := by omega
    obtain ⟨a1, a2⟩ := val_zero_err hva
    obtain ⟨b1, b2⟩ := val_zero_err hvb
    have ca := (cls_fin hf ba).2 a2
    have cb := (cls_fin hf bb).2 b2
    have na : nanB M E ba = false := by unfold nanB; exact decide_eq_false (by omega)
    have nb : nanB M E bb = false := by unfold nanB; exact decide_eq_false (by omega)
    have ia : infB M E ba = false := by unfold infB; exact decide_eq_false (by omega)
    have ib : infB M E bb = false := by unfold infB; exact decide_eq_false (by omega)
    have hs := val_add hf ba bb
    have hp := val_mul hf ba bb
    have va := val_in hf ba
    have vb := val_in hf bb
    have r1 := addI_num P M E H low hm a1 b1 na nb
    have r2 := mulI_num P M E H low hm a1 b1 na nb
    have hvn : vainB M E ba bb = false := by unfold vainB; rw [ia, ib]; simp
    rw [hvn] at r2
    unfold sumT bitsS tmS at r1
    unfold bitsS prodT tmS at r2
    simp only [ia, ib, Bool.and_false, Bool.false_and, Bool.or_self, Bool.false_eq_true, if_false] at r1 r2
    rw [hva, hvb] at hs hp r1 r2
    rw [hva] at va
    rw [hvb] at vb
    simp only at hs hp r1 r2 va vb
    obtain ⟨⟨sn, sx, se⟩, hds⟩ : ∃ d, D.add ⟨an, ax, ae⟩ ⟨bn, bx, be⟩ = d := ⟨_, rfl⟩
    obtain ⟨⟨pn, px, pe⟩, hdp⟩ : ∃ d, D.mul ⟨an, ax, ae⟩ ⟨bn, bx, be⟩ = d := ⟨_, rfl⟩
    rw [hds] at hs r1
    rw [hdp] at hp r2
    simp only at hs hp
    obtain ⟨⟨ts, fs, es⟩, hrs⟩ : ∃ r, roundS P M E H low mode ⟨sn, sx, se⟩ (ntS mode (ngB H ba) (ngB H bb)) = r := ⟨_, rfl⟩
    obtain ⟨⟨tp, fp, ep⟩, hrp⟩ : ∃ r, roundS P M E H low mode ⟨pn, px, pe⟩ (ngB H ba != ngB H bb) = r := ⟨_, rfl⟩
    rw [hrs] at r1
    rw [hrp] at r2
    have ms := (mayR_may hs.2.2.1)
    have mp := hp.2.2.2.1
    obtain ⟨os, _, ls, gs⟩ := round_same hf hm hs.2.2.1 _ hrs
    have xs := round_exact hf hm hs.2.2.1 (show -40000 ≤ se by omega) _ hrs
    have vms := val_in hf ts
    obtain ⟨⟨⟨vsn, vsx, vse⟩, ers⟩, hvs⟩ : ∃ r, valS M E H low ts = r := ⟨_, rfl⟩
    rw [hvs] at xs vms
    simp only at xs vms
    have bs : (bits BinOp.and IntKind.i64 fs 1 == 0) = decide (fs = 0) := by rcases gs with rfl | rfl | rfl | rfl <;> decide
    obtain ⟨op, _, lp, gp⟩ := round_same hf hm hp.2.2.1 _ hrp
    have xp := round_exact hf hm hp.2.2.1 (show -40000 ≤ pe by omega) _ hrp
    have vmp := val_in hf tp
    obtain ⟨⟨⟨vpn, vpx, vpe⟩, erp⟩, hvp⟩ : ∃ r, valS M E H low tp = r := ⟨_, rfl⟩
    rw [hvp] at xp vmp
    simp only at xp vmp
    have bp : (bits BinOp.and IntKind.i64 fp 1 == 0) = decide (fp = 0) := by rcases gp with rfl | rfl | rfl | rfl <;> decide
    obtain rfl : es = 0 := by assumption
    obtain rfl : ep = 0 := by assumption
    by_cases es0 : ers = 0
    · have fs0 : (bits BinOp.and IntKind.i64 fs 1 == 0) = decide (D.vl ⟨vsn, vsx, vse⟩ = D.vl ⟨sn, sx, se⟩) := by rw [bs]; exact decide_eq_decide.2 (by rw [xs]; exact ⟨fun h => h.2, fun h => ⟨es0, h⟩⟩)
      by_cases ep0 : erp = 0
      · have fp0 : (bits BinOp.and IntKind.i64 fp 1 == 0) = decide (D.vl ⟨vpn, vpx, vpe⟩ = D.vl ⟨pn, px, pe⟩) := by rw [bp]; exact decide_eq_decide.2 (by rw [xp]; exact ⟨fun h => h.2, fun h => ⟨ep0, h⟩⟩)
        exact exact5_ff hf mode ba bb hba hbb hT hF k1 k2 hva hvb (by omega) (by omega) hs.1 hs.2.1 hp.1 hp.2.1 r1 r2 _ rfl (by omega) os hvs (by omega) (by simp [es0]) vms.1 ms _ rfl fs0 _ rfl (by omega) op hvp (by omega) (by simp [ep0]) vmp.1 mp _ rfl fp0
      · have fp0 : (bits BinOp.and IntKind.i64 fp 1 == 0) = false := by rw [bp]; exact decide_eq_false (fun h => ep0 (xp.1 h).1)
        exact exact5_fi hf mode ba bb hba hbb hT hF k1 k2 hva hvb (by omega) (by omega) hs.1 hs.2.1 hp.1 hp.2.1 r1 r2 _ rfl (by omega) os hvs (by omega) (by simp [es0]) vms.1 ms _ rfl fs0 _ rfl (by omega) op hvp (by omega) (by simpa using ep0) fp0
    · have fs0 : (bits BinOp.and IntKind.i64 fs 1 == 0) = false := by rw [bs]; exact decide_eq_false (fun h => es0 (xs.1 h).1)
      by_cases ep0 : erp = 0
      · have fp0 : (bits BinOp.and IntKind.i64 fp 1 == 0) = decide (D.vl ⟨vpn, vpx, vpe⟩ = D.vl ⟨pn, px, pe⟩) := by rw [bp]; exact decide_eq_decide.2 (by rw [xp]; exact ⟨fun h => h.2, fun h => ⟨ep0, h⟩⟩)
        exact exact5_if hf mode ba bb hba hbb hT hF k1 k2 hva hvb (by omega) (by omega) hs.1 hs.2.1 hp.1 hp.2.1 r1 r2 _ rfl (by omega) os hvs (by omega) (by simpa using es0) fs0 _ rfl (by omega) op hvp (by omega) (by simp [ep0]) vmp.1 mp _ rfl fp0
      · have fp0 : (bits BinOp.and IntKind.i64 fp 1 == 0) = false := by rw [bp]; exact decide_eq_false (fun h => ep0 (xp.1 h).1)
        exact exact5_ii hf mode ba bb hba hbb hT hF k1 k2 hva hvb (by omega) (by omega) hs.1 hs.2.1 hp.1 hp.2.1 r1 r2 _ rfl (by omega) os hvs (by omega) (by simpa using es0) fs0 _ rfl (by omega) op hvp (by omega) (by simpa using ep0) fp0
  · exact exact5_bad bits mode ba bb h1 h2 h3 hT hF
end Go.Proofs.YtpachoeignpcbaaDoor
