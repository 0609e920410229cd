
/-
  The walks of the laws IeeeRest and IeeeNear.
-/
import Derived.Test.YtpachoeignpcbaaDoorIm
import Derived.Test.YtpachoeignpcbaaDoorIn
import Derived.Deep.DeepCutAuto
namespace Go.Proofs.YtpachoeignpcbaaDoor
open Go.RowKit
set_option linter.unusedVariables false

/-- block g begins with two numbers. -/
def R6 (w : World) (g : Nat) (n0 : Bool) (V0 : Option Addr) (v0 : Nat) (e0 : Int) (n1 : Bool) (V1 : Option Addr) (v1 : Nat) (e1 : Int) : Prop :=
  ∃ cur, w.heap[g]? = some (.cells cur 39 (0, 0)) ∧ cur.toList.take 6 = [.bool n0, .slice V0 v0 v0, .int .i64 e0, .bool n1, .slice V1 v1 v1, .int .i64 e1]
section
variable {w w' : World} {g : Nat} {n0 n1 : Bool} {V0 V1 : Option Addr} {v0 v1 : Nat} {e0 e1 : Int}
theorem R6.lt (h : R6 w g n0 V0 v0 e0 n1 V1 v1 e1) : g < w.heap.size := by
  obtain ⟨cur, h1, h2⟩ := h
  exact (Array.getElem?_eq_some_iff.1 h1).1
theorem R6.on (h : R6 w g n0 V0 v0 e0 n1 V1 v1 e1) (hb : Below w.heap.size w w') : R6 w' g n0 V0 v0 e0 n1 V1 v1 e1 := by
  obtain ⟨cur, h1, h2⟩ := h
  exact ⟨cur, (hb.block g (Array.getElem?_eq_some_iff.1 h1).1).trans h1, h2⟩
theorem R6.cell (h : R6 w g n0 V0 v0 e0 n1 V1 v1 e1) (i : Nat) (u : Value) (hi : [.bool n0, .slice V0 v0 v0, .int .i64 e0, .bool n1, .slice V1 v1 v1, .int .i64 e1][i]? = some u) : w.cell? ⟨g, i, none⟩ = some u := by
  obtain ⟨cur, h1, h2⟩ := h
  rw [cell_of_row w g i cur _ (0, 0) h1]
  rw [← h2, List.getElem?_take] at hi
  split at hi
  · simpa using hi
  · cases hi
theorem R6.free (h : R6 w g n0 V0 v0 e0 n1 V1 v1 e1) (i : Nat) : w.frozen? ⟨g, i, none⟩ = false := by
  obtain ⟨cur, h1, h2⟩ := h
  simp [World.frozen?, h1]
theorem R6.cells (h : R6 w g n0 V0 v0 e0 n1 V1 v1 e1) : w.cell? ⟨g, 0, none⟩ = some (.bool n0) ∧ w.cell? ⟨g, 1, none⟩ = some (.slice V0 v0 v0) ∧ w.cell? ⟨g, 2, none⟩ = some (.int .i64 e0) ∧ w.cell? ⟨g, 3, none⟩ = some (.bool n1) ∧ w.cell? ⟨g, 4, none⟩ = some (.slice V1 v1 v1) ∧ w.cell? ⟨g, 5, none⟩ = some (.int .i64 e1) ∧
    w.frozen? ⟨g, 0, none⟩ = false ∧ w.frozen? ⟨g, 3, none⟩ = false ∧ g < w.heap.size :=
  ⟨h.cell 0 _ rfl, h.cell 1 _ rfl, h.cell 2 _ rfl, h.cell 3 _ rfl, h.cell 4 _ rfl, h.cell 5 _ rfl, h.free 0, h.free 3, h.lt⟩
end
/-- a variable with a number, made within an assignment; no error. -/
def CutE (w0 : World) (rn : Bool) (rx : Nat) (re : Int) (s7 s8 : Value) (wx : World) : Prop :=
  ∃ g A n, s7 = .pointer (some ⟨g, 0, none⟩) ∧ s8 = .int .i64 0 ∧ DB wx g 39 rn A n n re ∧ Res wx A n rx ∧ w0.heap.size ≤ g ∧ Below w0.heap.size w0 wx
theorem rest5_bad (bits : Int) (mode : Int) (ba bb : Nat) (h1 : bits ≠ 16) (h2 : bits ≠ 32) (h3 : bits ≠ 64) {w : World} (hT : Tab w) (hF : Frm w) :
    Calls Tryd.prog 10 #[.int .i64 bits, .int .i64 mode, .int .u64 (ba : Int), .int .u64 (bb : Int)] w fun e w' => e = .returned (.bool true) ∧ Below w.heap.size w w' := by
  go_enter Tryd.func10, Tryd.ntmps10
  go_wp2_with fail
  refine (awake5_any hT hF).mono ?_
  rintro en w1 ⟨rfl, b⟩
  replace hT := hT.on b
  replace hF := hF.on b
  have BW := b
  clear b
  go_wp2_with fail
  refine (of_bad bits h1 h2 h3 _ hF).mono ?_
  rintro en w2 ⟨rfl, b⟩
  replace hT := hT.on b
  replace hF := hF.on b
  replace BW := Below.step BW b
  clear b
  go_wp2_with fail
  go_ret
  exact ⟨rfl, below_k BW _⟩
theorem rest5_m1 {B P W M E H : Nat} {low : Int} (hf : Fm B P W M E H low) (mode : Int) (ba bb : Nat) (hba : ba < 18446744073709551616) (hbb : bb < 18446744073709551616) {w : World} (hT : Tab w) (hF : Frm w) (m1 : decide (mode < 0) = true) :
    Calls Tryd.prog 10 #[.int .i64 (B : Int), .int .i64 mode, .int .u64 (ba : Int), .int .u64 (bb : Int)] w fun e w' => e = .returned (.bool true) ∧ Below w.heap.size w w' := by
  go_enter Tryd.func10, Tryd.ntmps10
  go_wp2_with fail
  refine (awake5_any hT hF).mono ?_
  rintro en w1 ⟨rfl, b⟩
  replace hT := hT.on b
  replace hF := hF.on b
  have BW := b
  clear b
  go_wp2_with fail
  refine (of_fm hf _ hF).mono ?_
  rintro en w2 ⟨rfl, b⟩
  replace hT := hT.on b
  replace hF := hF.on b
  replace BW := Below.step BW b
  clear b
  go_upto_region 4 with fail
  obtain ⟨w3, e_w3⟩ : ∃ w', w2.alloc (.cells #[.int .i64 (B : Int), .int .i64 (P : Int), .int .i64 (W : Int)] 25) = w' := ⟨_, rfl⟩
  have b : Below w2.heap.size w2 w3 := e_w3 ▸ below_lit _ _
  have hs_w3 : w3.heap.size = w2.heap.size + 1 := e_w3 ▸ size_lit w2 _ rfl
  have zf : FB w3 w2.heap.size 25 (B : Int) (P : Int) (W : Int) := e_w3 ▸ FB.made_k w2 rfl 25 _ _ _
  rw [e_w3]
  clear e_w3
  replace hT := hT.on b
  replace hF := hF.on b
  replace BW := Below.step BW b
  clear b
  clear hs_w3
  clear hF
  obtain ⟨zfc0, zfc1, zfc2, zff0, zff1, zff2, zfl⟩ := zf.cells
  go_wp2_with fail
  go_ret
  exact ⟨rfl, BW⟩
theorem rest5_m2 {B P W M E H : Nat} {low : Int} (hf : Fm B P W M E H low) (mode : Int) (ba bb : Nat) (hba : ba < 18446744073709551616) (hbb : bb < 18446744073709551616) {w : World} (hT : Tab w) (hF : Frm w) (m1 : decide (mode < 0) = false) (m2 : decide (5 ≤ mode) = true) :
    Calls Tryd.prog 10 #[.int .i64 (B : Int), .int .i64 mode, .int .u64 (ba : Int), .int .u64 (bb : Int)] w fun e w' => e = .returned (.bool true) ∧ Below w.heap.size w w' := by
  go_enter Tryd.func10, Tryd.ntmps10
  go_wp2_with fail
  refine (awake5_any hT hF).mono ?_
  rintro en w1 ⟨rfl, b⟩
  replace hT := hT.on b
  replace hF := hF.on b
  have BW := b
  clear b
  go_wp2_with fail
  refine (of_fm hf _ hF).mono ?_
  rintro en w2 ⟨rfl, b⟩
  replace hT := hT.on b
  replace hF := hF.on b
  replace BW := Below.step BW b
  clear b
  go_upto_region 4 with fail
  obtain ⟨w3, e_w3⟩ : ∃ w', w2.alloc (.cells #[.int .i64 (B : Int), .int .i64 (P : Int), .int .i64 (W : Int)] 25) = w' := ⟨_, rfl⟩
  have b : Below w2.heap.size w2 w3 := e_w3 ▸ below_lit _ _
  have hs_w3 : w3.heap.size = w2.heap.size + 1 := e_w3 ▸ size_lit w2 _ rfl
  have zf : FB w3 w2.heap.size 25 (B : Int) (P : Int) (W : Int) := e_w3 ▸ FB.made_k w2 rfl 25 _ _ _
  rw [e_w3]
  clear e_w3
  replace hT := hT.on b
  replace hF := hF.on b
  replace BW := Below.step BW b
  clear b
  clear hs_w3
  clear hF
  obtain ⟨zfc0, zfc1, zfc2, zff0, zff1, zff2, zfl⟩ := zf.cells
  go_wp2_with fail
  go_ret
  exact ⟨rfl, BW⟩
theorem rest5_v0 {B P W M E H : Nat} {low : Int} (hf : Fm B P W M E H low) (mode : Int) (ba bb : Nat) (hba : ba < 18446744073709551616) (hbb : bb < 18446744073709551616) {w : World} (hT : Tab w) (hF : Frm w) (m1 : decide (mode < 0) = false) (m2 : decide (5 ≤ mode) = false) {er : Int} (hv0 : valS M E H low ba = (⟨false, 0, 0⟩, er)) (d1 : (er != 0) = true) :
    Calls Tryd.prog 10 #[.int .i64 (B : Int), .int .i64 mode, .int .u64 (ba : Int), .int .u64 (bb : Int)] w fun e w' => e = .returned (.bool true) ∧ Below w.heap.size w w' := by
  have HV0 := Lib.hid hv0
  clear hv0
  go_enter Tryd.func10, Tryd.ntmps10
  go_wp2_with fail
  refine (awake5_any hT hF).mono ?_
  rintro en w1 ⟨rfl, b⟩
  replace hT := hT.on b
  replace hF := hF.on b
  have BW := b
  clear b
  go_wp2_with fail
  refine (of_fm hf _ hF).mono ?_
  rintro en w2 ⟨rfl, b⟩
  replace hT := hT.on b
  replace hF := hF.on b
  replace BW := Below.step BW b
  clear b
  go_upto_region 4 with fail
  obtain ⟨w3, e_w3⟩ : ∃ w', w2.alloc (.cells #[.int .i64 (B : Int), .int .i64 (P : Int), .int .i64 (W : Int)] 25) = w' := ⟨_, rfl⟩
  have b : Below w2.heap.size w2 w3 := e_w3 ▸ below_lit _ _
  have hs_w3 : w3.heap.size = w2.heap.size + 1 := e_w3 ▸ size_lit w2 _ rfl
  have zf : FB w3 w2.heap.size 25 (B : Int) (P : Int) (W : Int) := e_w3 ▸ FB.made_k w2 rfl 25 _ _ _
  rw [e_w3]
  clear e_w3
  replace hT := hT.on b
  replace hF := hF.on b
  replace BW := Below.step BW b
  clear b
  clear hs_w3
  clear hF
  obtain ⟨zfc0, zfc1, zfc2, zff0, zff1, zff2, zfl⟩ := zf.cells
  go_wp2_with fail
  clear zfc0 zfc1 zfc2 zff0 zff1 zff2 zfl
  obtain ⟨w4, e_w4⟩ : ∃ w', w3.alloc (.cells #[.int .u64 (ba : Int), .int .u64 (bb : Int)] 22) = w' := ⟨_, rfl⟩
  have b : Below w3.heap.size w3 w4 := e_w4 ▸ below_lit _ _
  have hs_w4 : w4.heap.size = w3.heap.size + 1 := e_w4 ▸ size_lit w3 _ rfl
  have ob : OB w4 w3.heap.size [ba, bb] := e_w4 ▸ OB.two w3 rfl ba bb
  rw [e_w4]
  clear e_w4
  replace hT := hT.on b
  replace zf := zf.on b
  replace BW := Below.step BW b
  clear b
  clear hs_w4
  refine (fin2_0 hf ba bb hba hbb ob hT HV0.out d1).mono ?_
  rintro en w5 ⟨rfl, b⟩
  replace hT := hT.on b
  replace zf := zf.on b
  replace ob := ob.on b
  replace BW := Below.step BW b
  clear b
  clear ob
  obtain ⟨zfc0, zfc1, zfc2, zff0, zff1, zff2, zfl⟩ := zf.cells
  go_wp2_with fail
  go_ret
  exact ⟨rfl, BW⟩
theorem rest5_v1 {B P W M E H : Nat} {low : Int} (hf : Fm B P W M E H low) (mode : Int) (ba bb : Nat) (hba : ba < 18446744073709551616) (hbb : bb < 18446744073709551616) {w : World} (hT : Tab w) (hF : Frm w) (m1 : decide (mode < 0) = false) (m2 : decide (5 ≤ mode) = false) {n0 : Bool} {x0 : Nat} {e0 er : Int} (hv0 : valS M E H low ba = (⟨n0, x0, e0⟩, 0)) (hv1 : valS M E H low bb = (⟨false, 0, 0⟩, er)) (d1 : (er != 0) = true) :
    Calls Tryd.prog 10 #[.int .i64 (B : Int), .int .i64 mode, .int .u64 (ba : Int), .int .u64 (bb : Int)] w fun e w' => e = .returned (.bool true) ∧ Below w.heap.size w w' := by
  have HV0 := Lib.hid hv0
  have HV1 := Lib.hid hv1
  clear hv1
  clear hv0
  go_enter Tryd.func10, Tryd.ntmps10
  go_wp2_with fail
  refine (awake5_any hT hF).mono ?_
  rintro en w1 ⟨rfl, b⟩
  replace hT := hT.on b
  replace hF := hF.on b
  have BW := b
  clear b
  go_wp2_with fail
  refine (of_fm hf _ hF).mono ?_
  rintro en w2 ⟨rfl, b⟩
  replace hT := hT.on b
  replace hF := hF.on b
  replace BW := Below.step BW b
  clear b
  go_upto_region 4 with fail
  obtain ⟨w3, e_w3⟩ : ∃ w', w2.alloc (.cells #[.int .i64 (B : Int), .int .i64 (P : Int), .int .i64 (W : Int)] 25) = w' := ⟨_, rfl⟩
  have b : Below w2.heap.size w2 w3 := e_w3 ▸ below_lit _ _
  have hs_w3 : w3.heap.size = w2.heap.size + 1 := e_w3 ▸ size_lit w2 _ rfl
  have zf : FB w3 w2.heap.size 25 (B : Int) (P : Int) (W : Int) := e_w3 ▸ FB.made_k w2 rfl 25 _ _ _
  rw [e_w3]
  clear e_w3
  replace hT := hT.on b
  replace hF := hF.on b
  replace BW := Below.step BW b
  clear b
  clear hs_w3
  clear hF
  obtain ⟨zfc0, zfc1, zfc2, zff0, zff1, zff2, zfl⟩ := zf.cells
  go_wp2_with fail
  clear zfc0 zfc1 zfc2 zff0 zff1 zff2 zfl
  obtain ⟨w4, e_w4⟩ : ∃ w', w3.alloc (.cells #[.int .u64 (ba : Int), .int .u64 (bb : Int)] 22) = w' := ⟨_, rfl⟩
  have b : Below w3.heap.size w3 w4 := e_w4 ▸ below_lit _ _
  have hs_w4 : w4.heap.size = w3.heap.size + 1 := e_w4 ▸ size_lit w3 _ rfl
  have ob : OB w4 w3.heap.size [ba, bb] := e_w4 ▸ OB.two w3 rfl ba bb
  rw [e_w4]
  clear e_w4
  replace hT := hT.on b
  replace zf := zf.on b
  replace BW := Below.step BW b
  clear b
  clear hs_w4
  refine (fin2_1 hf ba bb hba hbb ob hT HV0.out HV1.out d1).mono ?_
  rintro en w5 ⟨rfl, b⟩
  replace hT := hT.on b
  replace zf := zf.on b
  replace ob := ob.on b
  replace BW := Below.step BW b
  clear b
  clear ob
  obtain ⟨zfc0, zfc1, zfc2, zff0, zff1, zff2, zfl⟩ := zf.cells
  go_wp2_with fail
  go_ret
  exact ⟨rfl, BW⟩
set_option maxHeartbeats 4000000 in
set_option maxRecDepth 100000 in
theorem rest5_over {B P W M E H : Nat} {low : Int} (hf : Fm B P W M E H low) (mode : Int) (ba bb : Nat) (hba : ba < 18446744073709551616) (hbb : bb < 18446744073709551616) {w : World} (hT : Tab w) (hF : Frm w) (m1 : decide (mode < 0) = false) (m2 : decide (5 ≤ mode) = false) {n0 n1 : Bool} {x0 x1 : Nat} {e0 e1 : Int} (hv0 : valS M E H low ba = (⟨n0, x0, e0⟩, 0)) (hv1 : valS M E H low bb = (⟨n1, x1, e1⟩, 0)) (hl0 : blen x0 ≤ 4096) (hl1 : blen x1 ≤ 4096) {p : Nat} {fl : Int} (hp : p < 18446744073709551616) (r1 : mulI P M E H low 0 ba bb = (p, fl, 0)) {er : Int} (hvp : valS M E H low p = (⟨false, 0, 0⟩, er)) (d1 : (er != 0) = true) :
    Calls Tryd.prog 10 #[.int .i64 (B : Int), .int .i64 mode, .int .u64 (ba : Int), .int .u64 (bb : Int)] w fun e w' => e = .returned (.bool true) ∧ Below w.heap.size w w' := by
  have HV0 := Lib.hid hv0
  have HV1 := Lib.hid hv1
  clear hv0 hv1
  have H1 := Lib.hid r1
  have HVP := Lib.hid hvp
  clear r1 hvp
  go_enter Tryd.func10, Tryd.ntmps10
  go_wp2_with fail
  refine (awake5_any hT hF).mono ?_
  rintro en w1 ⟨rfl, b⟩
  replace hT := hT.on b
  replace hF := hF.on b
  have BW := b
  clear b
  go_wp2_with fail
  refine (of_fm hf _ hF).mono ?_
  rintro en w2 ⟨rfl, b⟩
  replace hT := hT.on b
  replace hF := hF.on b
  replace BW := Below.step BW b
  clear b
  go_upto_region 4 with fail
  obtain ⟨w3, e_w3⟩ : ∃ w', w2.alloc (.cells #[.int .i64 (B : Int), .int .i64 (P : Int), .int .i64 (W : Int)] 25) = w' := ⟨_, rfl⟩
  have b : Below w2.heap.size w2 w3 := e_w3 ▸ below_lit _ _
  have hs_w3 : w3.heap.size = w2.heap.size + 1 := e_w3 ▸ size_lit w2 _ rfl
  have zf : FB w3 w2.heap.size 25 (B : Int) (P : Int) (W : Int) := e_w3 ▸ FB.made_k w2 rfl 25 _ _ _
  rw [e_w3]
  clear e_w3
  replace hT := hT.on b
  replace hF := hF.on b
  replace BW := Below.step BW b
  clear b
  clear hs_w3
  clear hF
  obtain ⟨zfc0, zfc1, zfc2, zff0, zff1, zff2, zfl⟩ := zf.cells
  go_wp2_with fail
  clear zfc0 zfc1 zfc2 zff0 zff1 zff2 zfl
  obtain ⟨w4, e_w4⟩ : ∃ w', w3.alloc (.cells #[.int .u64 (ba : Int), .int .u64 (bb : Int)] 22) = w' := ⟨_, rfl⟩
  have b : Below w3.heap.size w3 w4 := e_w4 ▸ below_lit _ _
  have hs_w4 : w4.heap.size = w3.heap.size + 1 := e_w4 ▸ size_lit w3 _ rfl
  have ob : OB w4 w3.heap.size [ba, bb] := e_w4 ▸ OB.two w3 rfl ba bb
  rw [e_w4]
  clear e_w4
  replace hT := hT.on b
  replace zf := zf.on b
  replace BW := Below.step BW b
  clear b
  clear hs_w4
  have hsz := BW.size
  have zfl0 := zf.cells.2.2.2.2.2.2
  refine (fin2_ok hf ba bb hba hbb ob hT HV0.out HV1.out).mono ?_
  rintro en w5 ⟨g, cap, cur, V0, v0, V1, v1, rfl, hg, hcur, hcap, hcm, hgs, r0, r1, b⟩
  replace hT := hT.on b
  replace zf := zf.on b
  replace ob := ob.on b
  replace BW := Below.step BW b
  clear b
  clear ob
  have zl : R6 w5 g n0 V0 v0 e0 n1 V1 v1 e1 := ⟨cur, hg, hcur⟩
  clear hg hcur
  have hgf : g ≠ w2.heap.size := by omega
  have hfg : w2.heap.size ≠ g := by omega
  have hgw : w.heap.size ≤ g := by omega
  clear hsz zfl0 hgs hcap hcm
  have l0 := res_n_le r0 (k := 128) hl0
  have l1 := res_n_le r1 (k := 128) hl1
  obtain ⟨zfc0, zfc1, zfc2, zff0, zff1, zff2, zfl⟩ := zf.cells
  go_wp2_with fail
  refine (mul_as hf 0 ba bb hba hbb hT H1.out).mono ?_
  rintro en w6 ⟨rfl, b⟩
  clear zfc0 zfc1 zfc2 zff0 zff1 zff2 zfl
  replace hT := hT.on b
  replace zf := zf.on b
  replace r0 := r0.on b
  replace r1 := r1.on b
  replace zl := zl.on b
  replace BW := Below.step BW b
  clear b
  obtain ⟨zfc0, zfc1, zfc2, zff0, zff1, zff2, zfl⟩ := zf.cells
  go_wp2_with fail
  refine (value_as hf p hp hT HVP.out).mono ?_
  rintro en w7 ⟨V_rp, v_rp, rfl, rp, b⟩
  clear zfc0 zfc1 zfc2 zff0 zff1 zff2 zfl
  replace hT := hT.on b
  replace zf := zf.on b
  replace r0 := r0.on b
  replace r1 := r1.on b
  replace zl := zl.on b
  replace BW := Below.step BW b
  clear b
  obtain ⟨zfc0, zfc1, zfc2, zff0, zff1, zff2, zfl⟩ := zf.cells
  go_upto_region 11 with fail
  clear zfc0 zfc1 zfc2 zff0 zff1 zff2 zfl
  obtain ⟨w8, e_w8⟩ : ∃ w', w7.alloc (dob false V_rp v_rp v_rp 0 39) = w' := ⟨_, rfl⟩
  have b : Below w7.heap.size w7 w8 := e_w8 ▸ below_lit _ _
  have hs_w8 : w8.heap.size = w7.heap.size + 1 := e_w8 ▸ size_lit w7 _ rfl
  have zp : DB w8 w7.heap.size 39 false V_rp v_rp v_rp 0 := e_w8 ▸ DB.made w7 rfl 39 false V_rp v_rp v_rp 0
  rw [e_w8]
  clear e_w8
  replace hT := hT.on b
  replace zf := zf.on b
  replace r0 := r0.on b
  replace r1 := r1.on b
  replace zl := zl.on b
  replace rp := rp.on b
  replace BW := Below.step BW b
  clear b
  clear hs_w8
  go_wp2_with fail
  go_ret
  exact ⟨rfl, BW⟩
set_option maxHeartbeats 4000000 in
set_option maxRecDepth 100000 in
theorem rest5_none {B P W M E H : Nat} {low : Int} (hf : Fm B P W M E H low) (mode : Int) (ba bb : Nat) (hba : ba < 18446744073709551616) (hbb : bb < 18446744073709551616) {w : World} (hT : Tab w) (hF : Frm w) (m1 : decide (mode < 0) = false) (m2 : decide (5 ≤ mode) = false) {n0 n1 : Bool} {x0 x1 : Nat} {e0 e1 : Int} (hv0 : valS M E H low ba = (⟨n0, x0, e0⟩, 0)) (hv1 : valS M E H low bb = (⟨n1, x1, e1⟩, 0)) (hl0 : blen x0 ≤ 4096) (hl1 : blen x1 ≤ 4096) {p : Nat} {fl : Int} (hp : p < 18446744073709551616) (r1 : mulI P M E H low 0 ba bb = (p, fl, 0)) {pn : Bool} {px : Nat} {pe : Int} (hvp : valS M E H low p = (⟨pn, px, pe⟩, 0)) (hlp : blen px ≤ 4096) {mn : Bool} {mx : Nat} {me : Int} (hm : mulS ⟨n0, x0, e0⟩ ⟨n1, x1, e1⟩ = (⟨mn, mx, me⟩, 0)) (hlm : blen mx ≤ 4096) {sn : Bool} {sx : Nat} {se : Int} (hs : addS ⟨mn, mx, me⟩ (D.turn ⟨pn, px, pe⟩) = (⟨sn, sx, se⟩, 0)) (hld : blen sx ≤ 4096) {v : Nat} {k : Int} (hpu : putS P M E H low ⟨sn, sx, se⟩ = (v, k)) (d2 : (k != 0) = true) :
    Calls Tryd.prog 10 #[.int .i64 (B : Int), .int .i64 mode, .int .u64 (ba : Int), .int .u64 (bb : Int)] w fun e w' => e = .returned (.bool true) ∧ Below w.heap.size w w' := by
  have HV0 := Lib.hid hv0
  have HV1 := Lib.hid hv1
  clear hv0 hv1
  have H1 := Lib.hid r1
  have HVP := Lib.hid hvp
  have HM := Lib.hid hm
  have HS := Lib.hid hs
  have HPU := Lib.hid hpu
  clear r1 hvp hm hs hpu
  go_enter Tryd.func10, Tryd.ntmps10
  go_wp2_with fail
  refine (awake5_any hT hF).mono ?_
  rintro en w1 ⟨rfl, b⟩
  replace hT := hT.on b
  replace hF := hF.on b
  have BW := b
  clear b
  go_wp2_with fail
  refine (of_fm hf _ hF).mono ?_
  rintro en w2 ⟨rfl, b⟩
  replace hT := hT.on b
  replace hF := hF.on b
  replace BW := Below.step BW b
  clear b
  go_upto_region 4 with fail
  obtain ⟨w3, e_w3⟩ : ∃ w', w2.alloc (.cells #[.int .i64 (B : Int), .int .i64 (P : Int), .int .i64 (W : Int)] 25) = w' := ⟨_, rfl⟩
  have b : Below w2.heap.size w2 w3 := e_w3 ▸ below_lit _ _
  have hs_w3 : w3.heap.size = w2.heap.size + 1 := e_w3 ▸ size_lit w2 _ rfl
  have zf : FB w3 w2.heap.size 25 (B : Int) (P : Int) (W : Int) := e_w3 ▸ FB.made_k w2 rfl 25 _ _ _
  rw [e_w3]
  clear e_w3
  replace hT := hT.on b
  replace hF := hF.on b
  replace BW := Below.step BW b
  clear b
  clear hs_w3
  clear hF
  obtain ⟨zfc0, zfc1, zfc2, zff0, zff1, zff2, zfl⟩ := zf.cells
  go_wp2_with fail
  clear zfc0 zfc1 zfc2 zff0 zff1 zff2 zfl
  obtain ⟨w4, e_w4⟩ : ∃ w', w3.alloc (.cells #[.int .u64 (ba : Int), .int .u64 (bb : Int)] 22) = w' := ⟨_, rfl⟩
  have b : Below w3.heap.size w3 w4 := e_w4 ▸ below_lit _ _
  have hs_w4 : w4.heap.size = w3.heap.size + 1 := e_w4 ▸ size_lit w3 _ rfl
  have ob : OB w4 w3.heap.size [ba, bb] := e_w4 ▸ OB.two w3 rfl ba bb
  rw [e_w4]
  clear e_w4
  replace hT := hT.on b
  replace zf := zf.on b
  replace BW := Below.step BW b
  clear b
  clear hs_w4
  have hsz := BW.size
  have zfl0 := zf.cells.2.2.2.2.2.2
  refine (fin2_ok hf ba bb hba hbb ob hT HV0.out HV1.out).mono ?_
  rintro en w5 ⟨g, cap, cur, V0, v0, V1, v1, rfl, hg, hcur, hcap, hcm, hgs, r0, r1, b⟩
  replace hT := hT.on b
  replace zf := zf.on b
  replace ob := ob.on b
  replace BW := Below.step BW b
  clear b
  clear ob
  have zl : R6 w5 g n0 V0 v0 e0 n1 V1 v1 e1 := ⟨cur, hg, hcur⟩
  clear hg hcur
  have hgf : g ≠ w2.heap.size := by omega
  have hfg : w2.heap.size ≠ g := by omega
  have hgw : w.heap.size ≤ g := by omega
  clear hsz zfl0 hgs hcap hcm
  have l0 := res_n_le r0 (k := 128) hl0
  have l1 := res_n_le r1 (k := 128) hl1
  obtain ⟨zfc0, zfc1, zfc2, zff0, zff1, zff2, zfl⟩ := zf.cells
  go_wp2_with fail
  refine (mul_as hf 0 ba bb hba hbb hT H1.out).mono ?_
  rintro en w6 ⟨rfl, b⟩
  clear zfc0 zfc1 zfc2 zff0 zff1 zff2 zfl
  replace hT := hT.on b
  replace zf := zf.on b
  replace r0 := r0.on b
  replace r1 := r1.on b
  replace zl := zl.on b
  replace BW := Below.step BW b
  clear b
  obtain ⟨zfc0, zfc1, zfc2, zff0, zff1, zff2, zfl⟩ := zf.cells
  go_wp2_with fail
  refine (value_as hf p hp hT HVP.out).mono ?_
  rintro en w7 ⟨V_rp, v_rp, rfl, rp, b⟩
  clear zfc0 zfc1 zfc2 zff0 zff1 zff2 zfl
  replace hT := hT.on b
  replace zf := zf.on b
  replace r0 := r0.on b
  replace r1 := r1.on b
  replace zl := zl.on b
  replace BW := Below.step BW b
  clear b
  obtain ⟨zfc0, zfc1, zfc2, zff0, zff1, zff2, zfl⟩ := zf.cells
  go_upto_region 11 with fail
  clear zfc0 zfc1 zfc2 zff0 zff1 zff2 zfl
  have lp := res_n_le rp (k := 128) hlp
  obtain ⟨w8, e_w8⟩ : ∃ w', w7.alloc (dob pn V_rp v_rp v_rp pe 39) = w' := ⟨_, rfl⟩
  have b : Below w7.heap.size w7 w8 := e_w8 ▸ below_lit _ _
  have hs_w8 : w8.heap.size = w7.heap.size + 1 := e_w8 ▸ size_lit w7 _ rfl
  have zp : DB w8 w7.heap.size 39 pn V_rp v_rp v_rp pe := e_w8 ▸ DB.made w7 rfl 39 pn V_rp v_rp v_rp pe
  rw [e_w8]
  clear e_w8
  replace hT := hT.on b
  replace zf := zf.on b
  replace r0 := r0.on b
  replace r1 := r1.on b
  replace zl := zl.on b
  replace rp := rp.on b
  replace BW := Below.step BW b
  clear b
  clear hs_w8
  obtain ⟨zfc0, zfc1, zfc2, zff0, zff1, zff2, zfl⟩ := zf.cells
  obtain ⟨zpc0, zpc1, zpc2, zpf0, zpf1, zpf2, zpl⟩ := zp.cells
  go_upto_region 13 with fail
  clear zfc0 zfc1 zfc2 zff0 zff1 zff2 zfl zpc0 zpc1 zpc2 zpf0 zpf1 zpf2 zpl
  go_cut [18, 19] (CutE w8 mn mx me)
  case first =>
    have HS : Hid (∀ w', Below w8.heap.size w8 w' → w'.cell? ⟨g, 0, none⟩ = some (.bool n0) ∧ w'.cell? ⟨g, 1, none⟩ = some (.slice V0 v0 v0) ∧ w'.cell? ⟨g, 2, none⟩ = some (.int .i64 e0) ∧ w'.cell? ⟨g, 3, none⟩ = some (.bool n1) ∧ w'.cell? ⟨g, 4, none⟩ = some (.slice V1 v1 v1) ∧ w'.cell? ⟨g, 5, none⟩ = some (.int .i64 e1)) := fun w' hb => by
      have p0 := (zl.on hb).cells
      exact ⟨p0.1, p0.2.1, p0.2.2.1, p0.2.2.2.1, p0.2.2.2.2.1, p0.2.2.2.2.2.1⟩
    have kk : Below w8.heap.size w8 w8.drew := (Below.refl _ _).drew
    have kd : Below w8.heap.size w8 (w8.alloc (dob false none 0 0 0 39)).drew := (below_k (Below.refl _ _) _).drew
    have KhT := Lib.hid hT
    have Kr0 := Lib.hid r0
    have Kr1 := Lib.hid r1
    clear hT zf r0 r1 zl rp zp BW
    go_region_held3 (fun w' => w'.cell? ⟨g, 0, none⟩ = some (.bool n0) ∧ w'.cell? ⟨g, 1, none⟩ = some (.slice V0 v0 v0) ∧ w'.cell? ⟨g, 2, none⟩ = some (.int .i64 e0) ∧ w'.cell? ⟨g, 3, none⟩ = some (.bool n1) ∧ w'.cell? ⟨g, 4, none⟩ = some (.slice V1 v1 v1) ∧ w'.cell? ⟨g, 5, none⟩ = some (.int .i64 e1))
      ((refine HS.out _ ?_; first | (with_reducible assumption) | (with_reducible exact below_k (by assumption) _) | ((with_reducible refine below_put3 ?_ ?_ _ _ _) <;> first | (with_reducible assumption) | omega)))
      (first
      | (go_at_call 25
         refine (dmul_as ((Kr0.out.on (by first | (with_reducible assumption) | (with_reducible exact below_k (by assumption) _))).arg (by omega)) ((Kr1.out.on (by first | (with_reducible assumption) | (with_reducible exact below_k (by assumption) _))).arg (by omega)) (by omega) (by omega) (KhT.out.on (by first | (with_reducible assumption) | (with_reducible exact below_k (by assumption) _))) HM.out).mono ?_
         rintro e v8 ⟨B3, m3, rfl, r3, b8⟩
         have kk := Below.step (show Below w8.heap.size w8 _ from (by first | (with_reducible assumption) | (with_reducible exact below_k (by assumption) _))) b8
         have hz8 := kk.size
         have r3 := Lib.hid r3
         first | (have zz := (kmade_drew w8 rfl 39 false none 0 0 0).on b8; obtain ⟨p0, p1, p2, g0, g1, g2, _⟩ := zz.cells; have zz := Lib.hid zz) | skip
         clear b8))
    all_goals go_wp2_with fail
    all_goals go_meet
    all_goals (first | (exact ⟨_, B3, m3, rfl, rfl, zz.out.put_d mn B3 m3 m3 me, zz.out.res r3.out _ _ _, (by first | exact Nat.le_refl _ | omega), below_put3 kk (by omega) _ _ _⟩) | (exact ⟨_, B3, m3, rfl, rfl, DB.made v8 rfl 39 mn B3 m3 m3 me, r3.out.on (below_lit _ _), (by omega), below_k kk _⟩))
  case rest =>
    obtain ⟨gzh, Azh, nzh, rfl, rfl, zm, rm, hgz, b⟩ := hcut
    clear hgz
    obtain ⟨w9, rfl⟩ : ∃ w9 : World, w9 = wc := ⟨_, rfl⟩
    replace hT := hT.on b
    replace zf := zf.on b
    replace r0 := r0.on b
    replace r1 := r1.on b
    replace zl := zl.on b
    replace rp := rp.on b
    replace zp := zp.on b
    replace BW := Below.step BW b
    clear b
    have lm := res_n_le rm (k := 128) hlm
    clear zl r0 r1
    obtain ⟨zfc0, zfc1, zfc2, zff0, zff1, zff2, zfl⟩ := zf.cells
    obtain ⟨zpc0, zpc1, zpc2, zpf0, zpf1, zpf2, zpl⟩ := zp.cells
    obtain ⟨zmc0, zmc1, zmc2, zmf0, zmf1, zmf2, zml⟩ := zm.cells
    go_wp2_with fail
    refine (dsub_as (rm.arg (by omega)) (rp.arg (by omega)) (by omega) (by omega) hT HS.out).mono ?_
    rintro en w10 ⟨V_rd, v_rd, rfl, rd, b⟩
    clear zfc0 zfc1 zfc2 zff0 zff1 zff2 zfl zpc0 zpc1 zpc2 zpf0 zpf1 zpf2 zpl zmc0 zmc1 zmc2 zmf0 zmf1 zmf2 zml
    replace hT := hT.on b
    replace zf := zf.on b
    replace rp := rp.on b
    replace zp := zp.on b
    replace zm := zm.on b
    replace rm := rm.on b
    replace BW := Below.step BW b
    clear b
    have ld := res_n_le rd (k := 128) hld
    obtain ⟨zfc0, zfc1, zfc2, zff0, zff1, zff2, zfl⟩ := zf.cells
    obtain ⟨zpc0, zpc1, zpc2, zpf0, zpf1, zpf2, zpl⟩ := zp.cells
    obtain ⟨zmc0, zmc1, zmc2, zmf0, zmf1, zmf2, zml⟩ := zm.cells
    go_upto_region 15 with fail
    clear zfc0 zfc1 zfc2 zff0 zff1 zff2 zfl zpc0 zpc1 zpc2 zpf0 zpf1 zpf2 zpl zmc0 zmc1 zmc2 zmf0 zmf1 zmf2 zml
    obtain ⟨w11, e_w11⟩ : ∃ w', w10.alloc (dob sn V_rd v_rd v_rd se 39) = w' := ⟨_, rfl⟩
    have b : Below w10.heap.size w10 w11 := e_w11 ▸ below_lit _ _
    have hs_w11 : w11.heap.size = w10.heap.size + 1 := e_w11 ▸ size_lit w10 _ rfl
    have zd : DB w11 w10.heap.size 39 sn V_rd v_rd v_rd se := e_w11 ▸ DB.made w10 rfl 39 sn V_rd v_rd v_rd se
    rw [e_w11]
    clear e_w11
    replace hT := hT.on b
    replace zf := zf.on b
    replace rp := rp.on b
    replace zp := zp.on b
    replace zm := zm.on b
    replace rm := rm.on b
    replace rd := rd.on b
    replace BW := Below.step BW b
    clear b
    clear hs_w11
    clear zp zm rp rm
    obtain ⟨zfc0, zfc1, zfc2, zff0, zff1, zff2, zfl⟩ := zf.cells
    obtain ⟨zdc0, zdc1, zdc2, zdf0, zdf1, zdf2, zdl⟩ := zd.cells
    go_wp2_with fail
    refine (put_as hf (rd.arg (by omega)) (by omega) hT HPU.out).mono ?_
    rintro en w12 ⟨rfl, b⟩
    clear zfc0 zfc1 zfc2 zff0 zff1 zff2 zfl zdc0 zdc1 zdc2 zdf0 zdf1 zdf2 zdl
    replace hT := hT.on b
    replace zf := zf.on b
    replace rd := rd.on b
    replace zd := zd.on b
    replace BW := Below.step BW b
    clear b
    obtain ⟨zfc0, zfc1, zfc2, zff0, zff1, zff2, zfl⟩ := zf.cells
    obtain ⟨zdc0, zdc1, zdc2, zdf0, zdf1, zdf2, zdl⟩ := zd.cells
    go_wp2_with fail
    go_ret
    exact ⟨rfl, BW⟩
set_option maxHeartbeats 4000000 in
set_option maxRecDepth 100000 in
theorem rest5_zero {B P W M E H : Nat} {low : Int} (hf : Fm B P W M E H low) (mode : Int) (ba bb : Nat) (hba : ba < 18446744073709551616) (hbb : bb < 18446744073709551616) {w : World} (hT : Tab w) (hF : Frm w) (m1 : decide (mode < 0) = false) (m2 : decide (5 ≤ mode) = false) {n0 n1 : Bool} {x0 x1 : Nat} {e0 e1 : Int} (hv0 : valS M E H low ba = (⟨n0, x0, e0⟩, 0)) (hv1 : valS M E H low bb = (⟨n1, x1, e1⟩, 0)) (hl0 : blen x0 ≤ 4096) (hl1 : blen x1 ≤ 4096) {p : Nat} {fl : Int} (hp : p < 18446744073709551616) (r1 : mulI P M E H low 0 ba bb = (p, fl, 0)) {pn : Bool} {px : Nat} {pe : Int} (hvp : valS M E H low p = (⟨pn, px, pe⟩, 0)) (hlp : blen px ≤ 4096) {mn : Bool} {mx : Nat} {me : Int} (hm : mulS ⟨n0, x0, e0⟩ ⟨n1, x1, e1⟩ = (⟨mn, mx, me⟩, 0)) (hlm : blen mx ≤ 4096) {sn : Bool} {sx : Nat} {se : Int} (hs : addS ⟨mn, mx, me⟩ (D.turn ⟨pn, px, pe⟩) = (⟨sn, sx, se⟩, 0)) (hld : blen sx ≤ 4096) {v : Nat} {k : Int} (hpu : putS P M E H low ⟨sn, sx, se⟩ = (v, k)) (d2 : (k != 0) = false) (hx0 : sx = 0) (md : Bool) (d3 : (mode == 2) = md) (pt : Nat) (ht : trnS H p = pt) (hpt : pt < 18446744073709551616) {want : Nat} (hfm : fmaI P M E H low mode ba bb pt = (want, 0, 0)) (hw : sgn H md 0 = want) :
    Calls Tryd.prog 10 #[.int .i64 (B : Int), .int .i64 mode, .int .u64 (ba : Int), .int .u64 (bb : Int)] w fun e w' => e = .returned (.bool true) ∧ Below w.heap.size w w' := by
  have HV0 := Lib.hid hv0
  have HV1 := Lib.hid hv1
  clear hv0 hv1
  have H1 := Lib.hid r1
  have HVP := Lib.hid hvp
  have HM := Lib.hid hm
  have HS := Lib.hid hs
  have HPU := Lib.hid hpu
  clear r1 hvp hm hs hpu
  have HT := Lib.hid ht
  have HF := Lib.hid hfm
  clear ht hfm
  have HNO := Lib.hid (fun V => nought_as hf md want hw V)
  clear hw
  go_enter Tryd.func10, Tryd.ntmps10
  go_wp2_with fail
  refine (awake5_any hT hF).mono ?_
  rintro en w1 ⟨rfl, b⟩
  replace hT := hT.on b
  replace hF := hF.on b
  have BW := b
  clear b
  go_wp2_with fail
  refine (of_fm hf _ hF).mono ?_
  rintro en w2 ⟨rfl, b⟩
  replace hT := hT.on b
  replace hF := hF.on b
  replace BW := Below.step BW b
  clear b
  go_upto_region 4 with fail
  obtain ⟨w3, e_w3⟩ : ∃ w', w2.alloc (.cells #[.int .i64 (B : Int), .int .i64 (P : Int), .int .i64 (W : Int)] 25) = w' := ⟨_, rfl⟩
  have b : Below w2.heap.size w2 w3 := e_w3 ▸ below_lit _ _
  have hs_w3 : w3.heap.size = w2.heap.size + 1 := e_w3 ▸ size_lit w2 _ rfl
  have zf : FB w3 w2.heap.size 25 (B : Int) (P : Int) (W : Int) := e_w3 ▸ FB.made_k w2 rfl 25 _ _ _
  rw [e_w3]
  clear e_w3
  replace hT := hT.on b
  replace hF := hF.on b
  replace BW := Below.step BW b
  clear b
  clear hs_w3
  clear hF
  obtain ⟨zfc0, zfc1, zfc2, zff0, zff1, zff2, zfl⟩ := zf.cells
  go_wp2_with fail
  clear zfc0 zfc1 zfc2 zff0 zff1 zff2 zfl
  obtain ⟨w4, e_w4⟩ : ∃ w', w3.alloc (.cells #[.int .u64 (ba : Int), .int .u64 (bb : Int)] 22) = w' := ⟨_, rfl⟩
  have b : Below w3.heap.size w3 w4 := e_w4 ▸ below_lit _ _
  have hs_w4 : w4.heap.size = w3.heap.size + 1 := e_w4 ▸ size_lit w3 _ rfl
  have ob : OB w4 w3.heap.size [ba, bb] := e_w4 ▸ OB.two w3 rfl ba bb
  rw [e_w4]
  clear e_w4
  replace hT := hT.on b
  replace zf := zf.on b
  replace BW := Below.step BW b
  clear b
  clear hs_w4
  have hsz := BW.size
  have zfl0 := zf.cells.2.2.2.2.2.2
  refine (fin2_ok hf ba bb hba hbb ob hT HV0.out HV1.out).mono ?_
  rintro en w5 ⟨g, cap, cur, V0, v0, V1, v1, rfl, hg, hcur, hcap, hcm, hgs, r0, r1, b⟩
  replace hT := hT.on b
  replace zf := zf.on b
  replace ob := ob.on b
  replace BW := Below.step BW b
  clear b
  clear ob
  have zl : R6 w5 g n0 V0 v0 e0 n1 V1 v1 e1 := ⟨cur, hg, hcur⟩
  clear hg hcur
  have hgf : g ≠ w2.heap.size := by omega
  have hfg : w2.heap.size ≠ g := by omega
  have hgw : w.heap.size ≤ g := by omega
  clear hsz zfl0 hgs hcap hcm
  have l0 := res_n_le r0 (k := 128) hl0
  have l1 := res_n_le r1 (k := 128) hl1
  obtain ⟨zfc0, zfc1, zfc2, zff0, zff1, zff2, zfl⟩ := zf.cells
  go_wp2_with fail
  refine (mul_as hf 0 ba bb hba hbb hT H1.out).mono ?_
  rintro en w6 ⟨rfl, b⟩
  clear zfc0 zfc1 zfc2 zff0 zff1 zff2 zfl
  replace hT := hT.on b
  replace zf := zf.on b
  replace r0 := r0.on b
  replace r1 := r1.on b
  replace zl := zl.on b
  replace BW := Below.step BW b
  clear b
  obtain ⟨zfc0, zfc1, zfc2, zff0, zff1, zff2, zfl⟩ := zf.cells
  go_wp2_with fail
  refine (value_as hf p hp hT HVP.out).mono ?_
  rintro en w7 ⟨V_rp, v_rp, rfl, rp, b⟩
  clear zfc0 zfc1 zfc2 zff0 zff1 zff2 zfl
  replace hT := hT.on b
  replace zf := zf.on b
  replace r0 := r0.on b
  replace r1 := r1.on b
  replace zl := zl.on b
  replace BW := Below.step BW b
  clear b
  obtain ⟨zfc0, zfc1, zfc2, zff0, zff1, zff2, zfl⟩ := zf.cells
  go_upto_region 11 with fail
  clear zfc0 zfc1 zfc2 zff0 zff1 zff2 zfl
  have lp := res_n_le rp (k := 128) hlp
  obtain ⟨w8, e_w8⟩ : ∃ w', w7.alloc (dob pn V_rp v_rp v_rp pe 39) = w' := ⟨_, rfl⟩
  have b : Below w7.heap.size w7 w8 := e_w8 ▸ below_lit _ _
  have hs_w8 : w8.heap.size = w7.heap.size + 1 := e_w8 ▸ size_lit w7 _ rfl
  have zp : DB w8 w7.heap.size 39 pn V_rp v_rp v_rp pe := e_w8 ▸ DB.made w7 rfl 39 pn V_rp v_rp v_rp pe
  rw [e_w8]
  clear e_w8
  replace hT := hT.on b
  replace zf := zf.on b
  replace r0 := r0.on b
  replace r1 := r1.on b
  replace zl := zl.on b
  replace rp := rp.on b
  replace BW := Below.step BW b
  clear b
  clear hs_w8
  obtain ⟨zfc0, zfc1, zfc2, zff0, zff1, zff2, zfl⟩ := zf.cells
  obtain ⟨zpc0, zpc1, zpc2, zpf0, zpf1, zpf2, zpl⟩ := zp.cells
  go_upto_region 13 with fail
  clear zfc0 zfc1 zfc2 zff0 zff1 zff2 zfl zpc0 zpc1 zpc2 zpf0 zpf1 zpf2 zpl
  go_cut [18, 19] (CutE w8 mn mx me)
  case first =>
    have HS : Hid (∀ w', Below w8.heap.size w8 w' → w'.cell? ⟨g, 0, none⟩ = some (.bool n0) ∧ w'.cell? ⟨g, 1, none⟩ = some (.slice V0 v0 v0) ∧ w'.cell? ⟨g, 2, none⟩ = some (.int .i64 e0) ∧ w'.cell? ⟨g, 3, none⟩ = some (.bool n1) ∧ w'.cell? ⟨g, 4, none⟩ = some (.slice V1 v1 v1) ∧ w'.cell? ⟨g, 5, none⟩ = some (.int .i64 e1)) := fun w' hb => by
      have p0 := (zl.on hb).cells
      exact ⟨p0.1, p0.2.1, p0.2.2.1, p0.2.2.2.1, p0.2.2.2.2.1, p0.2.2.2.2.2.1⟩
    have kk : Below w8.heap.size w8 w8.drew := (Below.refl _ _).drew
    have kd : Below w8.heap.size w8 (w8.alloc (dob false none 0 0 0 39)).drew := (below_k (Below.refl _ _) _).drew
    have KhT := Lib.hid hT
    have Kr0 := Lib.hid r0
    have Kr1 := Lib.hid r1
    clear hT zf r0 r1 zl rp zp BW
    go_region_held3 (fun w' => w'.cell? ⟨g, 0, none⟩ = some (.bool n0) ∧ w'.cell? ⟨g, 1, none⟩ = some (.slice V0 v0 v0) ∧ w'.cell? ⟨g, 2, none⟩ = some (.int .i64 e0) ∧ w'.cell? ⟨g, 3, none⟩ = some (.bool n1) ∧ w'.cell? ⟨g, 4, none⟩ = some (.slice V1 v1 v1) ∧ w'.cell? ⟨g, 5, none⟩ = some (.int .i64 e1))
      ((refine HS.out _ ?_; first | (with_reducible assumption) | (with_reducible exact below_k (by assumption) _) | ((with_reducible refine below_put3 ?_ ?_ _ _ _) <;> first | (with_reducible assumption) | omega)))
      (first
      | (go_at_call 25
         refine (dmul_as ((Kr0.out.on (by first | (with_reducible assumption) | (with_reducible exact below_k (by assumption) _))).arg (by omega)) ((Kr1.out.on (by first | (with_reducible assumption) | (with_reducible exact below_k (by assumption) _))).arg (by omega)) (by omega) (by omega) (KhT.out.on (by first | (with_reducible assumption) | (with_reducible exact below_k (by assumption) _))) HM.out).mono ?_
         rintro e v8 ⟨B3, m3, rfl, r3, b8⟩
         have kk := Below.step (show Below w8.heap.size w8 _ from (by first | (with_reducible assumption) | (with_reducible exact below_k (by assumption) _))) b8
         have hz8 := kk.size
         have r3 := Lib.hid r3
         first | (have zz := (kmade_drew w8 rfl 39 false none 0 0 0).on b8; obtain ⟨p0, p1, p2, g0, g1, g2, _⟩ := zz.cells; have zz := Lib.hid zz) | skip
         clear b8))
    all_goals go_wp2_with fail
    all_goals go_meet
    all_goals (first | (exact ⟨_, B3, m3, rfl, rfl, zz.out.put_d mn B3 m3 m3 me, zz.out.res r3.out _ _ _, (by first | exact Nat.le_refl _ | omega), below_put3 kk (by omega) _ _ _⟩) | (exact ⟨_, B3, m3, rfl, rfl, DB.made v8 rfl 39 mn B3 m3 m3 me, r3.out.on (below_lit _ _), (by omega), below_k kk _⟩))
  case rest =>
    obtain ⟨gzh, Azh, nzh, rfl, rfl, zm, rm, hgz, b⟩ := hcut
    clear hgz
    obtain ⟨w9, rfl⟩ : ∃ w9 : World, w9 = wc := ⟨_, rfl⟩
    replace hT := hT.on b
    replace zf := zf.on b
    replace r0 := r0.on b
    replace r1 := r1.on b
    replace zl := zl.on b
    replace rp := rp.on b
    replace zp := zp.on b
    replace BW := Below.step BW b
    clear b
    have lm := res_n_le rm (k := 128) hlm
    clear zl r0 r1
    obtain ⟨zfc0, zfc1, zfc2, zff0, zff1, zff2, zfl⟩ := zf.cells
    obtain ⟨zpc0, zpc1, zpc2, zpf0, zpf1, zpf2, zpl⟩ := zp.cells
    obtain ⟨zmc0, zmc1, zmc2, zmf0, zmf1, zmf2, zml⟩ := zm.cells
    go_wp2_with fail
    refine (dsub_as (rm.arg (by omega)) (rp.arg (by omega)) (by omega) (by omega) hT HS.out).mono ?_
    rintro en w10 ⟨V_rd, v_rd, rfl, rd, b⟩
    clear zfc0 zfc1 zfc2 zff0 zff1 zff2 zfl zpc0 zpc1 zpc2 zpf0 zpf1 zpf2 zpl zmc0 zmc1 zmc2 zmf0 zmf1 zmf2 zml
    replace hT := hT.on b
    replace zf := zf.on b
    replace rp := rp.on b
    replace zp := zp.on b
    replace zm := zm.on b
    replace rm := rm.on b
    replace BW := Below.step BW b
    clear b
    have ld := res_n_le rd (k := 128) hld
    obtain ⟨zfc0, zfc1, zfc2, zff0, zff1, zff2, zfl⟩ := zf.cells
    obtain ⟨zpc0, zpc1, zpc2, zpf0, zpf1, zpf2, zpl⟩ := zp.cells
    obtain ⟨zmc0, zmc1, zmc2, zmf0, zmf1, zmf2, zml⟩ := zm.cells
    go_upto_region 15 with fail
    clear zfc0 zfc1 zfc2 zff0 zff1 zff2 zfl zpc0 zpc1 zpc2 zpf0 zpf1 zpf2 zpl zmc0 zmc1 zmc2 zmf0 zmf1 zmf2 zml
    obtain ⟨w11, e_w11⟩ : ∃ w', w10.alloc (dob sn V_rd v_rd v_rd se 39) = w' := ⟨_, rfl⟩
    have b : Below w10.heap.size w10 w11 := e_w11 ▸ below_lit _ _
    have hs_w11 : w11.heap.size = w10.heap.size + 1 := e_w11 ▸ size_lit w10 _ rfl
    have zd : DB w11 w10.heap.size 39 sn V_rd v_rd v_rd se := e_w11 ▸ DB.made w10 rfl 39 sn V_rd v_rd v_rd se
    rw [e_w11]
    clear e_w11
    replace hT := hT.on b
    replace zf := zf.on b
    replace rp := rp.on b
    replace zp := zp.on b
    replace zm := zm.on b
    replace rm := rm.on b
    replace rd := rd.on b
    replace BW := Below.step BW b
    clear b
    clear hs_w11
    clear zp zm rp rm
    obtain ⟨zfc0, zfc1, zfc2, zff0, zff1, zff2, zfl⟩ := zf.cells
    obtain ⟨zdc0, zdc1, zdc2, zdf0, zdf1, zdf2, zdl⟩ := zd.cells
    go_wp2_with fail
    refine (put_as hf (rd.arg (by omega)) (by omega) hT HPU.out).mono ?_
    rintro en w12 ⟨rfl, b⟩
    clear zfc0 zfc1 zfc2 zff0 zff1 zff2 zfl zdc0 zdc1 zdc2 zdf0 zdf1 zdf2 zdl
    replace hT := hT.on b
    replace zf := zf.on b
    replace rd := rd.on b
    replace zd := zd.on b
    replace BW := Below.step BW b
    clear b
    obtain rfl : v_rd = 0 := by
      refine Classical.byContradiction fun h => (rd.pos_len h) ?_
      exact hx0
    obtain ⟨zfc0, zfc1, zfc2, zff0, zff1, zff2, zfl⟩ := zf.cells
    obtain ⟨zdc0, zdc1, zdc2, zdf0, zdf1, zdf2, zdl⟩ := zd.cells
    go_wp2_with fail
    refine (HNO.out _).mono ?_
    rintro en w13 ⟨rfl, b⟩
    clear zfc0 zfc1 zfc2 zff0 zff1 zff2 zfl zdc0 zdc1 zdc2 zdf0 zdf1 zdf2 zdl
    replace hT := hT.on b
    replace zf := zf.on b
    replace rd := rd.on b
    replace zd := zd.on b
    replace BW := Below.step BW b
    clear b
    obtain ⟨zfc0, zfc1, zfc2, zff0, zff1, zff2, zfl⟩ := zf.cells
    go_wp2_with fail
    clear zfc0 zfc1 zfc2 zff0 zff1 zff2 zfl
    replace hT := hT.on ((Below.refl _ _).drew : Below w13.heap.size w13 w13.drew)
    replace zf := zf.on ((Below.refl _ _).drew : Below w13.heap.size w13 w13.drew)
    replace rd := rd.on ((Below.refl _ _).drew : Below w13.heap.size w13 w13.drew)
    replace zd := zd.on ((Below.refl _ _).drew : Below w13.heap.size w13 w13.drew)
    replace BW := Lib.hid (Below.step BW ((Below.refl _ _).drew : Below w13.heap.size w13 w13.drew))
    go_region_held3 (fun w' => w'.cell? ⟨w2.heap.size, 0, none⟩ = some (.int .i64 (B : Int)) ∧ w'.cell? ⟨w2.heap.size, 1, none⟩ = some (.int .i64 (P : Int)) ∧ w'.cell? ⟨w2.heap.size, 2, none⟩ = some (.int .i64 (W : Int)))
      ((first | (with_reducible exact ⟨zf.cells.1, zf.cells.2.1, zf.cells.2.2.1⟩)))
      (first
        | (go_at_call 17
           (with_reducible refine (turned_as hf p hp pt HT.out _).mono ?_)
           rintro en w14 ⟨rfl, b⟩
           replace hT := hT.on b
           replace zf := zf.on b
           replace rd := rd.on b
           replace zd := zd.on b
           replace BW := Lib.hid (Below.step BW.out b)
           clear b)
        | (go_at_call 20
           (with_reducible refine (fma_as hf mode ba bb pt hba hbb hpt hT HF.out).mono ?_)
           rintro en w15 ⟨rfl, b⟩
           replace hT := hT.on b
           replace zf := zf.on b
           replace rd := rd.on b
           replace zd := zd.on b
           replace BW := Lib.hid (Below.step BW.out b)
           clear b))
    all_goals replace BW := BW.out
    go_wp2_with fail
    go_ret
    exact ⟨rfl, BW⟩
set_option maxHeartbeats 4000000 in
set_option maxRecDepth 100000 in
theorem rest5_num {B P W M E H : Nat} {low : Int} (hf : Fm B P W M E H low) (mode : Int) (ba bb : Nat) (hba : ba < 18446744073709551616) (hbb : bb < 18446744073709551616) {w : World} (hT : Tab w) (hF : Frm w) (m1 : decide (mode < 0) = false) (m2 : decide (5 ≤ mode) = false) {n0 n1 : Bool} {x0 x1 : Nat} {e0 e1 : Int} (hv0 : valS M E H low ba = (⟨n0, x0, e0⟩, 0)) (hv1 : valS M E H low bb = (⟨n1, x1, e1⟩, 0)) (hl0 : blen x0 ≤ 4096) (hl1 : blen x1 ≤ 4096) {p : Nat} {fl : Int} (hp : p < 18446744073709551616) (r1 : mulI P M E H low 0 ba bb = (p, fl, 0)) {pn : Bool} {px : Nat} {pe : Int} (hvp : valS M E H low p = (⟨pn, px, pe⟩, 0)) (hlp : blen px ≤ 4096) {mn : Bool} {mx : Nat} {me : Int} (hm : mulS ⟨n0, x0, e0⟩ ⟨n1, x1, e1⟩ = (⟨mn, mx, me⟩, 0)) (hlm : blen mx ≤ 4096) {sn : Bool} {sx : Nat} {se : Int} (hs : addS ⟨mn, mx, me⟩ (D.turn ⟨pn, px, pe⟩) = (⟨sn, sx, se⟩, 0)) (hld : blen sx ≤ 4096) {v : Nat} {k : Int} (hpu : putS P M E H low ⟨sn, sx, se⟩ = (v, k)) (d2 : (k != 0) = false) (hx0 : sx ≠ 0) (pt : Nat) (ht : trnS H p = pt) (hpt : pt < 18446744073709551616) (hfm : fmaI P M E H low mode ba bb pt = (v, 0, 0))  :
    Calls Tryd.prog 10 #[.int .i64 (B : Int), .int .i64 mode, .int .u64 (ba : Int), .int .u64 (bb : Int)] w fun e w' => e = .returned (.bool true) ∧ Below w.heap.size w w' := by
  have HV0 := Lib.hid hv0
  have HV1 := Lib.hid hv1
  clear hv0 hv1
  have H1 := Lib.hid r1
  have HVP := Lib.hid hvp
  have HM := Lib.hid hm
  have HS := Lib.hid hs
  have HPU := Lib.hid hpu
  clear r1 hvp hm hs hpu
  have HT := Lib.hid ht
  have HF := Lib.hid hfm
  clear ht hfm
  go_enter Tryd.func10, Tryd.ntmps10
  go_wp2_with fail
  refine (awake5_any hT hF).mono ?_
  rintro en w1 ⟨rfl, b⟩
  replace hT := hT.on b
  replace hF := hF.on b
  have BW := b
  clear b
  go_wp2_with fail
  refine (of_fm hf _ hF).mono ?_
  rintro en w2 ⟨rfl, b⟩
  replace hT := hT.on b
  replace hF := hF.on b
  replace BW := Below.step BW b
  clear b
  go_upto_region 4 with fail
  obtain ⟨w3, e_w3⟩ : ∃ w', w2.alloc (.cells #[.int .i64 (B : Int), .int .i64 (P : Int), .int .i64 (W : Int)] 25) = w' := ⟨_, rfl⟩
  have b : Below w2.heap.size w2 w3 := e_w3 ▸ below_lit _ _
  have hs_w3 : w3.heap.size = w2.heap.size + 1 := e_w3 ▸ size_lit w2 _ rfl
  have zf : FB w3 w2.heap.size 25 (B : Int) (P : Int) (W : Int) := e_w3 ▸ FB.made_k w2 rfl 25 _ _ _
  rw [e_w3]
  clear e_w3
  replace hT := hT.on b
  replace hF := hF.on b
  replace BW := Below.step BW b
  clear b
  clear hs_w3
  clear hF
  obtain ⟨zfc0, zfc1, zfc2, zff0, zff1, zff2, zfl⟩ := zf.cells
  go_wp2_with fail
  clear zfc0 zfc1 zfc2 zff0 zff1 zff2 zfl
  obtain ⟨w4, e_w4⟩ : ∃ w', w3.alloc (.cells #[.int .u64 (ba : Int), .int .u64 (bb : Int)] 22) = w' := ⟨_, rfl⟩
  have b : Below w3.heap.size w3 w4 := e_w4 ▸ below_lit _ _
  have hs_w4 : w4.heap.size = w3.heap.size + 1 := e_w4 ▸ size_lit w3 _ rfl
  have ob : OB w4 w3.heap.size [ba, bb] := e_w4 ▸ OB.two w3 rfl ba bb
  rw [e_w4]
  clear e_w4
  replace hT := hT.on b
  replace zf := zf.on b
  replace BW := Below.step BW b
  clear b
  clear hs_w4
  have hsz := BW.size
  have zfl0 := zf.cells.2.2.2.2.2.2
  refine (fin2_ok hf ba bb hba hbb ob hT HV0.out HV1.out).mono ?_
  rintro en w5 ⟨g, cap, cur, V0, v0, V1, v1, rfl, hg, hcur, hcap, hcm, hgs, r0, r1, b⟩
  replace hT := hT.on b
  replace zf := zf.on b
  replace ob := ob.on b
  replace BW := Below.step BW b
  clear b
  clear ob
  have zl : R6 w5 g n0 V0 v0 e0 n1 V1 v1 e1 := ⟨cur, hg, hcur⟩
  clear hg hcur
  have hgf : g ≠ w2.heap.size := by omega
  have hfg : w2.heap.size ≠ g := by omega
  have hgw : w.heap.size ≤ g := by omega
  clear hsz zfl0 hgs hcap hcm
  have l0 := res_n_le r0 (k := 128) hl0
  have l1 := res_n_le r1 (k := 128) hl1
  obtain ⟨zfc0, zfc1, zfc2, zff0, zff1, zff2, zfl⟩ := zf.cells
  go_wp2_with fail
  refine (mul_as hf 0 ba bb hba hbb hT H1.out).mono ?_
  rintro en w6 ⟨rfl, b⟩
  clear zfc0 zfc1 zfc2 zff0 zff1 zff2 zfl
  replace hT := hT.on b
  replace zf := zf.on b
  replace r0 := r0.on b
  replace r1 := r1.on b
  replace zl := zl.on b
  replace BW := Below.step BW b
  clear b
  obtain ⟨zfc0, zfc1, zfc2, zff0, zff1, zff2, zfl⟩ := zf.cells
  go_wp2_with fail
  refine (value_as hf p hp hT HVP.out).mono ?_
  rintro en w7 ⟨V_rp, v_rp, rfl, rp, b⟩
  clear zfc0 zfc1 zfc2 zff0 zff1 zff2 zfl
  replace hT := hT.on b
  replace zf := zf.on b
  replace r0 := r0.on b
  replace r1 := r1.on b
  replace zl := zl.on b
  replace BW := Below.step BW b
  clear b
  obtain ⟨zfc0, zfc1, zfc2, zff0, zff1, zff2, zfl⟩ := zf.cells
  go_upto_region 11 with fail
  clear zfc0 zfc1 zfc2 zff0 zff1 zff2 zfl
  have lp := res_n_le rp (k := 128) hlp
  obtain ⟨w8, e_w8⟩ : ∃ w', w7.alloc (dob pn V_rp v_rp v_rp pe 39) = w' := ⟨_, rfl⟩
  have b : Below w7.heap.size w7 w8 := e_w8 ▸ below_lit _ _
  have hs_w8 : w8.heap.size = w7.heap.size + 1 := e_w8 ▸ size_lit w7 _ rfl
  have zp : DB w8 w7.heap.size 39 pn V_rp v_rp v_rp pe := e_w8 ▸ DB.made w7 rfl 39 pn V_rp v_rp v_rp pe
  rw [e_w8]
  clear e_w8
  replace hT := hT.on b
  replace zf := zf.on b
  replace r0 := r0.on b
  replace r1 := r1.on b
  replace zl := zl.on b
  replace rp := rp.on b
  replace BW := Below.step BW b
  clear b
  clear hs_w8
  obtain ⟨zfc0, zfc1, zfc2, zff0, zff1, zff2, zfl⟩ := zf.cells
  obtain ⟨zpc0, zpc1, zpc2, zpf0, zpf1, zpf2, zpl⟩ := zp.cells
  go_upto_region 13 with fail
  clear zfc0 zfc1 zfc2 zff0 zff1 zff2 zfl zpc0 zpc1 zpc2 zpf0 zpf1 zpf2 zpl
  go_cut [18, 19] (CutE w8 mn mx me)
  case first =>
    have HS : Hid (∀ w', Below w8.heap.size w8 w' → w'.cell? ⟨g, 0, none⟩ = some (.bool n0) ∧ w'.cell? ⟨g, 1, none⟩ = some (.slice V0 v0 v0) ∧ w'.cell? ⟨g, 2, none⟩ = some (.int .i64 e0) ∧ w'.cell? ⟨g, 3, none⟩ = some (.bool n1) ∧ w'.cell? ⟨g, 4, none⟩ = some (.slice V1 v1 v1) ∧ w'.cell? ⟨g, 5, none⟩ = some (.int .i64 e1)) := fun w' hb => by
      have p0 := (zl.on hb).cells
      exact ⟨p0.1, p0.2.1, p0.2.2.1, p0.2.2.2.1, p0.2.2.2.2.1, p0.2.2.2.2.2.1⟩
    have kk : Below w8.heap.size w8 w8.drew := (Below.refl _ _).drew
    have kd : Below w8.heap.size w8 (w8.alloc (dob false none 0 0 0 39)).drew := (below_k (Below.refl _ _) _).drew
    have KhT := Lib.hid hT
    have Kr0 := Lib.hid r0
    have Kr1 := Lib.hid r1
    clear hT zf r0 r1 zl rp zp BW
    go_region_held3 (fun w' => w'.cell? ⟨g, 0, none⟩ = some (.bool n0) ∧ w'.cell? ⟨g, 1, none⟩ = some (.slice V0 v0 v0) ∧ w'.cell? ⟨g, 2, none⟩ = some (.int .i64 e0) ∧ w'.cell? ⟨g, 3, none⟩ = some (.bool n1) ∧ w'.cell? ⟨g, 4, none⟩ = some (.slice V1 v1 v1) ∧ w'.cell? ⟨g, 5, none⟩ = some (.int .i64 e1))
      ((refine HS.out _ ?_; first | (with_reducible assumption) | (with_reducible exact below_k (by assumption) _) | ((with_reducible refine below_put3 ?_ ?_ _ _ _) <;> first | (with_reducible assumption) | omega)))
      (first
      | (go_at_call 25
         refine (dmul_as ((Kr0.out.on (by first | (with_reducible assumption) | (with_reducible exact below_k (by assumption) _))).arg (by omega)) ((Kr1.out.on (by first | (with_reducible assumption) | (with_reducible exact below_k (by assumption) _))).arg (by omega)) (by omega) (by omega) (KhT.out.on (by first | (with_reducible assumption) | (with_reducible exact below_k (by assumption) _))) HM.out).mono ?_
         rintro e v8 ⟨B3, m3, rfl, r3, b8⟩
         have kk := Below.step (show Below w8.heap.size w8 _ from (by first | (with_reducible assumption) | (with_reducible exact below_k (by assumption) _))) b8
         have hz8 := kk.size
         have r3 := Lib.hid r3
         first | (have zz := (kmade_drew w8 rfl 39 false none 0 0 0).on b8; obtain ⟨p0, p1, p2, g0, g1, g2, _⟩ := zz.cells; have zz := Lib.hid zz) | skip
         clear b8))
    all_goals go_wp2_with fail
    all_goals go_meet
    all_goals (first | (exact ⟨_, B3, m3, rfl, rfl, zz.out.put_d mn B3 m3 m3 me, zz.out.res r3.out _ _ _, (by first | exact Nat.le_refl _ | omega), below_put3 kk (by omega) _ _ _⟩) | (exact ⟨_, B3, m3, rfl, rfl, DB.made v8 rfl 39 mn B3 m3 m3 me, r3.out.on (below_lit _ _), (by omega), below_k kk _⟩))
  case rest =>
    obtain ⟨gzh, Azh, nzh, rfl, rfl, zm, rm, hgz, b⟩ := hcut
    clear hgz
    obtain ⟨w9, rfl⟩ : ∃ w9 : World, w9 = wc := ⟨_, rfl⟩
    replace hT := hT.on b
    replace zf := zf.on b
    replace r0 := r0.on b
    replace r1 := r1.on b
    replace zl := zl.on b
    replace rp := rp.on b
    replace zp := zp.on b
    replace BW := Below.step BW b
    clear b
    have lm := res_n_le rm (k := 128) hlm
    clear zl r0 r1
    obtain ⟨zfc0, zfc1, zfc2, zff0, zff1, zff2, zfl⟩ := zf.cells
    obtain ⟨zpc0, zpc1, zpc2, zpf0, zpf1, zpf2, zpl⟩ := zp.cells
    obtain ⟨zmc0, zmc1, zmc2, zmf0, zmf1, zmf2, zml⟩ := zm.cells
    go_wp2_with fail
    refine (dsub_as (rm.arg (by omega)) (rp.arg (by omega)) (by omega) (by omega) hT HS.out).mono ?_
    rintro en w10 ⟨V_rd, v_rd, rfl, rd, b⟩
    clear zfc0 zfc1 zfc2 zff0 zff1 zff2 zfl zpc0 zpc1 zpc2 zpf0 zpf1 zpf2 zpl zmc0 zmc1 zmc2 zmf0 zmf1 zmf2 zml
    replace hT := hT.on b
    replace zf := zf.on b
    replace rp := rp.on b
    replace zp := zp.on b
    replace zm := zm.on b
    replace rm := rm.on b
    replace BW := Below.step BW b
    clear b
    have ld := res_n_le rd (k := 128) hld
    obtain ⟨zfc0, zfc1, zfc2, zff0, zff1, zff2, zfl⟩ := zf.cells
    obtain ⟨zpc0, zpc1, zpc2, zpf0, zpf1, zpf2, zpl⟩ := zp.cells
    obtain ⟨zmc0, zmc1, zmc2, zmf0, zmf1, zmf2, zml⟩ := zm.cells
    go_upto_region 15 with fail
    clear zfc0 zfc1 zfc2 zff0 zff1 zff2 zfl zpc0 zpc1 zpc2 zpf0 zpf1 zpf2 zpl zmc0 zmc1 zmc2 zmf0 zmf1 zmf2 zml
    obtain ⟨w11, e_w11⟩ : ∃ w', w10.alloc (dob sn V_rd v_rd v_rd se 39) = w' := ⟨_, rfl⟩
    have b : Below w10.heap.size w10 w11 := e_w11 ▸ below_lit _ _
    have hs_w11 : w11.heap.size = w10.heap.size + 1 := e_w11 ▸ size_lit w10 _ rfl
    have zd : DB w11 w10.heap.size 39 sn V_rd v_rd v_rd se := e_w11 ▸ DB.made w10 rfl 39 sn V_rd v_rd v_rd se
    rw [e_w11]
    clear e_w11
    replace hT := hT.on b
    replace zf := zf.on b
    replace rp := rp.on b
    replace zp := zp.on b
    replace zm := zm.on b
    replace rm := rm.on b
    replace rd := rd.on b
    replace BW := Below.step BW b
    clear b
    clear hs_w11
    clear zp zm rp rm
    obtain ⟨zfc0, zfc1, zfc2, zff0, zff1, zff2, zfl⟩ := zf.cells
    obtain ⟨zdc0, zdc1, zdc2, zdf0, zdf1, zdf2, zdl⟩ := zd.cells
    go_wp2_with fail
    refine (put_as hf (rd.arg (by omega)) (by omega) hT HPU.out).mono ?_
    rintro en w12 ⟨rfl, b⟩
    clear zfc0 zfc1 zfc2 zff0 zff1 zff2 zfl zdc0 zdc1 zdc2 zdf0 zdf1 zdf2 zdl
    replace hT := hT.on b
    replace zf := zf.on b
    replace rd := rd.on b
    replace zd := zd.on b
    replace BW := Below.step BW b
    clear b
    have dl : ((v_rd : Int) == 0) = false := by
      have : v_rd ≠ 0 := fun h => by
        subst h
        exact hx0 rd.zero_len
      simp
      omega
    obtain ⟨zfc0, zfc1, zfc2, zff0, zff1, zff2, zfl⟩ := zf.cells
    obtain ⟨zdc0, zdc1, zdc2, zdf0, zdf1, zdf2, zdl⟩ := zd.cells
    go_wp2_with fail
    clear zfc0 zfc1 zfc2 zff0 zff1 zff2 zfl zdc0 zdc1 zdc2 zdf0 zdf1 zdf2 zdl
    replace hT := hT.on ((Below.refl _ _).drew : Below w12.heap.size w12 w12.drew)
    replace zf := zf.on ((Below.refl _ _).drew : Below w12.heap.size w12 w12.drew)
    replace rd := rd.on ((Below.refl _ _).drew : Below w12.heap.size w12 w12.drew)
    replace zd := zd.on ((Below.refl _ _).drew : Below w12.heap.size w12 w12.drew)
    replace BW := Lib.hid (Below.step BW ((Below.refl _ _).drew : Below w12.heap.size w12 w12.drew))
    go_region_held3 (fun w' => w'.cell? ⟨w2.heap.size, 0, none⟩ = some (.int .i64 (B : Int)) ∧ w'.cell? ⟨w2.heap.size, 1, none⟩ = some (.int .i64 (P : Int)) ∧ w'.cell? ⟨w2.heap.size, 2, none⟩ = some (.int .i64 (W : Int)))
      ((first | (with_reducible exact ⟨zf.cells.1, zf.cells.2.1, zf.cells.2.2.1⟩)))
      (first
        | (go_at_call 17
           (with_reducible refine (turned_as hf p hp pt HT.out _).mono ?_)
           rintro en w13 ⟨rfl, b⟩
           replace hT := hT.on b
           replace zf := zf.on b
           replace rd := rd.on b
           replace zd := zd.on b
           replace BW := Lib.hid (Below.step BW.out b)
           clear b)
        | (go_at_call 20
           (with_reducible refine (fma_as hf mode ba bb pt hba hbb hpt hT HF.out).mono ?_)
           rintro en w14 ⟨rfl, b⟩
           replace hT := hT.on b
           replace zf := zf.on b
           replace rd := rd.on b
           replace zd := zd.on b
           replace BW := Lib.hid (Below.step BW.out b)
           clear b))
    all_goals replace BW := BW.out
    go_wp2_with fail
    go_ret
    exact ⟨rfl, BW⟩
theorem val_ok {B P W M E H : Nat} {low : Int} (hf : Fm B P W M E H low) {b : Nat} {d : D} (h : valS M E H low b = (d, 0)) : b < 2 * H ∧ clsS M E b ≤ 2 := by
  unfold valS at h
  by_cases h1 : b < 2 * H
  · rw [if_pos h1] at h
    by_cases h2 : b / M % (E + 1) = E
    · rw [if_pos h2] at h
      simp at h
    · exact ⟨h1, (cls_fin hf b).2 h2⟩
  · rw [if_neg h1] at h
    simp at h
theorem val_err {M E H : Nat} {low : Int} {b : Nat} {d : D} {e : Int} (h : valS M E H low b = (d, e)) (he : e ≠ 0) : d = ⟨false, 0, 0⟩ := by
  unfold valS at h
  split at h
  · split at h
    · simp only [Prod.mk.injEq] at h; exact h.1.symm
    · simp only [Prod.mk.injEq] at h; exact absurd h.2.symm he
  · simp only [Prod.mk.injEq] at h; exact h.1.symm
theorem rest5_walk (bits : Int) (mode : Int) (ba : Nat) (hba : ba < 18446744073709551616) (bb : Nat) (hbb : bb < 18446744073709551616) {w : World} (hT : Tab w) (hF : Frm w) :
    Calls Tryd.prog 10 #[.int .i64 bits, .int .i64 mode, .int .u64 (ba : Int), .int .u64 (bb : Int)] w fun e w' => e = .returned (.bool true) ∧ Below w.heap.size w w' := by
  rcases fm_of bits with ⟨B, P, W, M, E, H, low, hf, rfl⟩ | ⟨h1, h2, h3⟩
  · have hbd := hf.bd
    by_cases m1 : mode < 0
    · exact rest5_m1 hf mode ba bb hba hbb hT hF (decide_eq_true m1)
    by_cases m2 : 5 ≤ mode
    · exact rest5_m2 hf mode ba bb hba hbb hT hF (decide_eq_false m1) (decide_eq_true m2)
    have hm : 0 ≤ mode ∧ mode ≤ 4 := by omega
    have k1 := decide_eq_false m1
    have k2 := decide_eq_false m2
    obtain ⟨⟨⟨n0, x0, e0⟩, ea⟩, hva⟩ : ∃ r, valS M E H low ba = r := ⟨_, rfl⟩
    obtain ⟨⟨⟨n1, x1, e1⟩, eb⟩, hvb⟩ : ∃ r, valS M E H low bb = r := ⟨_, rfl⟩
    by_cases ha : ea ≠ 0
    · have hd := val_err hva ha
      rw [hd] at hva
      exact rest5_v0 hf mode ba bb hba hbb hT hF k1 k2 hva (by simpa using ha)
    obtain rfl : ea = 0 := by omega
    by_cases hb : eb ≠ 0
    · have hd := val_err hvb hb
      rw [hd] at hvb
      exact rest5_v1 hf mode ba bb hba hbb hT hF k1 k2 hva hvb (by simpa using hb)
    obtain rfl : eb = 0 := by omega
    obtain ⟨a1, ca⟩ := val_ok hf hva
    obtain ⟨b1, cb⟩ := val_ok hf hvb
    have va := val_in hf ba
    have vb := val_in hf bb
    have na : nanB M E ba = false := by unfold nanB; exact decide_eq_false (by omega)
    have nb : nanB M E bb = false := by unfold nanB; exact decide_eq_false (by omega)
    have ia : infB M E ba = false := by unfold infB; exact decide_eq_false (by omega)
    have ib : infB M E bb = false := by unfold infB; exact decide_eq_false (by omega)
    have hvn : vainB M E ba bb = false := by unfold vainB; rw [ia, ib]; simp
    have r1 := mulI_num P M E H low (mode := 0) (by omega) a1 b1 na nb
    rw [hvn, if_neg (by decide)] at r1
    have hml := val_mul hf ba bb
    obtain ⟨p, fl, q1, q2, q3, q4⟩ := bits_out hf (mode := 0) (by omega) (prodT (tmS M E H low ba) (tmS M E H low bb)).neg (prodT (tmS M E H low ba) (tmS M E H low bb)).inf (d := (prodT (tmS M E H low ba) (tmS M E H low bb)).d) (fun _ => hml.2.2.1)
    have r2 : mulI P M E H low 0 ba bb = (p, fl, 0) := r1.trans q1
    obtain ⟨⟨⟨pn, px, pe⟩, ep⟩, hvp⟩ : ∃ r, valS M E H low p = r := ⟨_, rfl⟩
    have hrt := rest_told hf a1 b1 ca cb r2
    have vp := val_in hf p
    rw [hva] at va hml hrt
    rw [hvb] at vb hml hrt
    rw [hvp] at vp hrt
    simp only at va vb hml vp hrt
    by_cases hp : ep ≠ 0
    · have hd := val_err hvp hp
      rw [hd] at hvp
      exact rest5_over hf mode ba bb hba hbb hT hF k1 k2 hva hvb (by omega) (by omega) (by omega) r2 hvp (by simpa using hp)
    obtain rfl : ep = 0 := by omega
    obtain ⟨p1, cp⟩ := val_ok hf hvp
    obtain ⟨_, _, ⟨sn, sx, se⟩, t1, t2, t3⟩ := hrt cp
    obtain ⟨⟨mn, mx, me⟩, hmd⟩ : ∃ d, D.mul ⟨n0, x0, e0⟩ ⟨n1, x1, e1⟩ = d := ⟨_, rfl⟩
    rw [hmd] at hml t1
    simp only at hml t2 t3
    obtain ⟨⟨v, k⟩, hpu⟩ : ∃ r, putS P M E H low ⟨sn, sx, se⟩ = r := ⟨_, rfl⟩
    by_cases hk : k ≠ 0
    · exact rest5_none hf mode ba bb hba hbb hT hF k1 k2 hva hvb (by omega) (by omega) (by omega) r2 hvp (by omega) hml.1 hml.2.1 t1 t2 hpu (by simpa using hk)
    obtain rfl : k = 0 := by omega
    have ht := trnS_lt hf p
    have hfm := t3 mode hm v hpu
    by_cases hx : sx = 0
    · rw [if_pos hx] at hfm
      exact rest5_zero hf mode ba bb hba hbb hT hF k1 k2 hva hvb (by omega) (by omega) (by omega) r2 hvp (by omega) hml.1 hml.2.1 t1 t2 hpu rfl hx (decide (mode = 2)) (by rw [Bool.eq_iff_iff]; simp) _ rfl (by omega) hfm rfl
    · rw [if_neg hx] at hfm
      exact rest5_num hf mode ba bb hba hbb hT hF k1 k2 hva hvb (by omega) (by omega) (by omega) r2 hvp (by omega) hml.1 hml.2.1 t1 t2 hpu rfl hx _ rfl (by omega) hfm
  · exact rest5_bad bits mode ba bb h1 h2 h3 hT hF
theorem near5_bad (bits : Int) (mode : Int) (ba bb : Nat) (h1 : bits ≠ 16) (h2 : bits ≠ 32) (h3 : bits ≠ 64) {w : World} (hT : Tab w) (hF : Frm w) :
    Calls Tryd.prog 8 #[.int .i64 bits, .int .i64 mode, .int .u64 (ba : Int), .int .u64 (bb : Int)] w fun e w' => e = .returned (.bool true) ∧ Below w.heap.size w w' := by
  go_enter Tryd.func8, Tryd.ntmps8
  go_wp2_with fail
  refine (awake5_any hT hF).mono ?_
  rintro en w1 ⟨rfl, b⟩
  replace hT := hT.on b
  replace hF := hF.on b
  have BW := b
  clear b
  go_wp2_with fail
  refine (of_bad bits h1 h2 h3 _ hF).mono ?_
  rintro en w2 ⟨rfl, b⟩
  replace hT := hT.on b
  replace hF := hF.on b
  replace BW := Below.step BW b
  clear b
  go_wp2_with fail
  go_ret
  exact ⟨rfl, below_k BW _⟩
theorem near5_m1 {B P W M E H : Nat} {low : Int} (hf : Fm B P W M E H low) (mode : Int) (ba bb : Nat) (hba : ba < 18446744073709551616) (hbb : bb < 18446744073709551616) {w : World} (hT : Tab w) (hF : Frm w) (m1 : decide (mode < 0) = true) :
    Calls Tryd.prog 8 #[.int .i64 (B : Int), .int .i64 mode, .int .u64 (ba : Int), .int .u64 (bb : Int)] w fun e w' => e = .returned (.bool true) ∧ Below w.heap.size w w' := by
  go_enter Tryd.func8, Tryd.ntmps8
  go_wp2_with fail
  refine (awake5_any hT hF).mono ?_
  rintro en w1 ⟨rfl, b⟩
  replace hT := hT.on b
  replace hF := hF.on b
  have BW := b
  clear b
  go_wp2_with fail
  refine (of_fm hf _ hF).mono ?_
  rintro en w2 ⟨rfl, b⟩
  replace hT := hT.on b
  replace hF := hF.on b
  replace BW := Below.step BW b
  clear b
  go_upto_region 4 with fail
  obtain ⟨w3, e_w3⟩ : ∃ w', w2.alloc (.cells #[.int .i64 (B : Int), .int .i64 (P : Int), .int .i64 (W : Int)] 25) = w' := ⟨_, rfl⟩
  have b : Below w2.heap.size w2 w3 := e_w3 ▸ below_lit _ _
  have hs_w3 : w3.heap.size = w2.heap.size + 1 := e_w3 ▸ size_lit w2 _ rfl
  have zf : FB w3 w2.heap.size 25 (B : Int) (P : Int) (W : Int) := e_w3 ▸ FB.made_k w2 rfl 25 _ _ _
  rw [e_w3]
  clear e_w3
  replace hT := hT.on b
  replace hF := hF.on b
  replace BW := Below.step BW b
  clear b
  clear hs_w3
  clear hF
  obtain ⟨zfc0, zfc1, zfc2, zff0, zff1, zff2, zfl⟩ := zf.cells
  go_wp2_with fail
  go_ret
  exact ⟨rfl, BW⟩
theorem near5_m2 {B P W M E H : Nat} {low : Int} (hf : Fm B P W M E H low) (mode : Int) (ba bb : Nat) (hba : ba < 18446744073709551616) (hbb : bb < 18446744073709551616) {w : World} (hT : Tab w) (hF : Frm w) (m1 : decide (mode < 0) = false) (m2 : decide (5 ≤ mode) = true) :
    Calls Tryd.prog 8 #[.int .i64 (B : Int), .int .i64 mode, .int .u64 (ba : Int), .int .u64 (bb : Int)] w fun e w' => e = .returned (.bool true) ∧ Below w.heap.size w w' := by
  go_enter Tryd.func8, Tryd.ntmps8
  go_wp2_with fail
  refine (awake5_any hT hF).mono ?_
  rintro en w1 ⟨rfl, b⟩
  replace hT := hT.on b
  replace hF := hF.on b
  have BW := b
  clear b
  go_wp2_with fail
  refine (of_fm hf _ hF).mono ?_
  rintro en w2 ⟨rfl, b⟩
  replace hT := hT.on b
  replace hF := hF.on b
  replace BW := Below.step BW b
  clear b
  go_upto_region 4 with fail
  obtain ⟨w3, e_w3⟩ : ∃ w', w2.alloc (.cells #[.int .i64 (B : Int), .int .i64 (P : Int), .int .i64 (W : Int)] 25) = w' := ⟨_, rfl⟩
  have b : Below w2.heap.size w2 w3 := e_w3 ▸ below_lit _ _
  have hs_w3 : w3.heap.size = w2.heap.size + 1 := e_w3 ▸ size_lit w2 _ rfl
  have zf : FB w3 w2.heap.size 25 (B : Int) (P : Int) (W : Int) := e_w3 ▸ FB.made_k w2 rfl 25 _ _ _
  rw [e_w3]
  clear e_w3
  replace hT := hT.on b
  replace hF := hF.on b
  replace BW := Below.step BW b
  clear b
  clear hs_w3
  clear hF
  obtain ⟨zfc0, zfc1, zfc2, zff0, zff1, zff2, zfl⟩ := zf.cells
  go_wp2_with fail
  go_ret
  exact ⟨rfl, BW⟩
theorem near5_v0 {B P W M E H : Nat} {low : Int} (hf : Fm B P W M E H low) (mode : Int) (ba bb : Nat) (hba : ba < 18446744073709551616) (hbb : bb < 18446744073709551616) {w : World} (hT : Tab w) (hF : Frm w) (m1 : decide (mode < 0) = false) (m2 : decide (5 ≤ mode) = false) {er : Int} (hv0 : valS M E H low ba = (⟨false, 0, 0⟩, er)) (d1 : (er != 0) = true) :
    Calls Tryd.prog 8 #[.int .i64 (B : Int), .int .i64 mode, .int .u64 (ba : Int), .int .u64 (bb : Int)] w fun e w' => e = .returned (.bool true) ∧ Below w.heap.size w w' := by
  have HV0 := Lib.hid hv0
  clear hv0
  go_enter Tryd.func8, Tryd.ntmps8
  go_wp2_with fail
  refine (awake5_any hT hF).mono ?_
  rintro en w1 ⟨rfl, b⟩
  replace hT := hT.on b
  replace hF := hF.on b
  have BW := b
  clear b
  go_wp2_with fail
  refine (of_fm hf _ hF).mono ?_
  rintro en w2 ⟨rfl, b⟩
  replace hT := hT.on b
  replace hF := hF.on b
  replace BW := Below.step BW b
  clear b
  go_upto_region 4 with fail
  obtain ⟨w3, e_w3⟩ : ∃ w', w2.alloc (.cells #[.int .i64 (B : Int), .int .i64 (P : Int), .int .i64 (W : Int)] 25) = w' := ⟨_, rfl⟩
  have b : Below w2.heap.size w2 w3 := e_w3 ▸ below_lit _ _
  have hs_w3 : w3.heap.size = w2.heap.size + 1 := e_w3 ▸ size_lit w2 _ rfl
  have zf : FB w3 w2.heap.size 25 (B : Int) (P : Int) (W : Int) := e_w3 ▸ FB.made_k w2 rfl 25 _ _ _
  rw [e_w3]
  clear e_w3
  replace hT := hT.on b
  replace hF := hF.on b
  replace BW := Below.step BW b
  clear b
  clear hs_w3
  clear hF
  obtain ⟨zfc0, zfc1, zfc2, zff0, zff1, zff2, zfl⟩ := zf.cells
  go_wp2_with fail
  clear zfc0 zfc1 zfc2 zff0 zff1 zff2 zfl
  obtain ⟨w4, e_w4⟩ : ∃ w', w3.alloc (.cells #[.int .u64 (ba : Int), .int .u64 (bb : Int)] 22) = w' := ⟨_, rfl⟩
  have b : Below w3.heap.size w3 w4 := e_w4 ▸ below_lit _ _
  have hs_w4 : w4.heap.size = w3.heap.size + 1 := e_w4 ▸ size_lit w3 _ rfl
  have ob : OB w4 w3.heap.size [ba, bb] := e_w4 ▸ OB.two w3 rfl ba bb
  rw [e_w4]
  clear e_w4
  replace hT := hT.on b
  replace zf := zf.on b
  replace BW := Below.step BW b
  clear b
  clear hs_w4
  refine (fin2_0 hf ba bb hba hbb ob hT HV0.out d1).mono ?_
  rintro en w5 ⟨rfl, b⟩
  replace hT := hT.on b
  replace zf := zf.on b
  replace ob := ob.on b
  replace BW := Below.step BW b
  clear b
  clear ob
  obtain ⟨zfc0, zfc1, zfc2, zff0, zff1, zff2, zfl⟩ := zf.cells
  go_wp2_with fail
  clear zfc0 zfc1 zfc2 zff0 zff1 zff2 zfl
  obtain ⟨zfc0, zfc1, zfc2, zff0, zff1, zff2, zfl⟩ := zf.cells
  go_quiet (fail)
  go_wp2_with fail
  go_ret
  exact ⟨rfl, below_drewN BW _⟩
theorem near5_v1 {B P W M E H : Nat} {low : Int} (hf : Fm B P W M E H low) (mode : Int) (ba bb : Nat) (hba : ba < 18446744073709551616) (hbb : bb < 18446744073709551616) {w : World} (hT : Tab w) (hF : Frm w) (m1 : decide (mode < 0) = false) (m2 : decide (5 ≤ mode) = false) {n0 : Bool} {x0 : Nat} {e0 er : Int} (hv0 : valS M E H low ba = (⟨n0, x0, e0⟩, 0)) (hv1 : valS M E H low bb = (⟨false, 0, 0⟩, er)) (d1 : (er != 0) = true) :
    Calls Tryd.prog 8 #[.int .i64 (B : Int), .int .i64 mode, .int .u64 (ba : Int), .int .u64 (bb : Int)] w fun e w' => e = .returned (.bool true) ∧ Below w.heap.size w w' := by
  have HV0 := Lib.hid hv0
  have HV1 := Lib.hid hv1
  clear hv1
  clear hv0
  go_enter Tryd.func8, Tryd.ntmps8
  go_wp2_with fail
  refine (awake5_any hT hF).mono ?_
  rintro en w1 ⟨rfl, b⟩
  replace hT := hT.on b
  replace hF := hF.on b
  have BW := b
  clear b
  go_wp2_with fail
  refine (of_fm hf _ hF).mono ?_
  rintro en w2 ⟨rfl, b⟩
  replace hT := hT.on b
  replace hF := hF.on b
  replace BW := Below.step BW b
  clear b
  go_upto_region 4 with fail
  obtain ⟨w3, e_w3⟩ : ∃ w', w2.alloc (.cells #[.int .i64 (B : Int), .int .i64 (P : Int), .int .i64 (W : Int)] 25) = w' := ⟨_, rfl⟩
  have b : Below w2.heap.size w2 w3 := e_w3 ▸ below_lit _ _
  have hs_w3 : w3.heap.size = w2.heap.size + 1 := e_w3 ▸ size_lit w2 _ rfl
  have zf : FB w3 w2.heap.size 25 (B : Int) (P : Int) (W : Int) := e_w3 ▸ FB.made_k w2 rfl 25 _ _ _
  rw [e_w3]
  clear e_w3
  replace hT := hT.on b
  replace hF := hF.on b
  replace BW := Below.step BW b
  clear b
  clear hs_w3
  clear hF
  obtain ⟨zfc0, zfc1, zfc2, zff0, zff1, zff2, zfl⟩ := zf.cells
  go_wp2_with fail
  clear zfc0 zfc1 zfc2 zff0 zff1 zff2 zfl
  obtain ⟨w4, e_w4⟩ : ∃ w', w3.alloc (.cells #[.int .u64 (ba : Int), .int .u64 (bb : Int)] 22) = w' := ⟨_, rfl⟩
  have b : Below w3.heap.size w3 w4 := e_w4 ▸ below_lit _ _
  have hs_w4 : w4.heap.size = w3.heap.size + 1 := e_w4 ▸ size_lit w3 _ rfl
  have ob : OB w4 w3.heap.size [ba, bb] := e_w4 ▸ OB.two w3 rfl ba bb
  rw [e_w4]
  clear e_w4
  replace hT := hT.on b
  replace zf := zf.on b
  replace BW := Below.step BW b
  clear b
  clear hs_w4
  refine (fin2_1 hf ba bb hba hbb ob hT HV0.out HV1.out d1).mono ?_
  rintro en w5 ⟨rfl, b⟩
  replace hT := hT.on b
  replace zf := zf.on b
  replace ob := ob.on b
  replace BW := Below.step BW b
  clear b
  clear ob
  obtain ⟨zfc0, zfc1, zfc2, zff0, zff1, zff2, zfl⟩ := zf.cells
  go_wp2_with fail
  clear zfc0 zfc1 zfc2 zff0 zff1 zff2 zfl
  obtain ⟨zfc0, zfc1, zfc2, zff0, zff1, zff2, zfl⟩ := zf.cells
  go_quiet (fail)
  go_wp2_with fail
  go_ret
  exact ⟨rfl, below_drewN BW _⟩
theorem R6.put {w : World} {g : Nat} {n0 n1 : Bool} {V0 V1 : Option Addr} {v0 v1 : Nat} {e0 e1 : Int} (h : R6 w g n0 V0 v0 e0 n1 V1 v1 e1) (m0 m1 : Bool) : R6 ((w.setCell ⟨g, 0, none⟩ (.bool m0)).setCell ⟨g, 3, none⟩ (.bool m1)) g m0 V0 v0 e0 m1 V1 v1 e1 := by
  obtain ⟨cur, h1, h2⟩ := h
  refine ⟨(cur.set! 0 (.bool m0)).set! 3 (.bool m1), ?_, ?_⟩
  · simp [World.setCell, Array.getElem?_modify, h1]
  · simp only [Array.set!_eq_setIfInBounds, Array.toList_setIfInBounds, List.take_set]
    rw [h2]
    rfl
set_option maxHeartbeats 4000000 in
set_option maxRecDepth 100000 in
theorem near5_sign {B P W M E H : Nat} {low : Int} (hf : Fm B P W M E H low) (mode : Int) (ba bb : Nat) (hba : ba < 18446744073709551616) (hbb : bb < 18446744073709551616) {w : World} (hT : Tab w) (hF : Frm w) (m1 : decide (mode < 0) = false) (m2 : decide (5 ≤ mode) = false) {n0 n1 : Bool} {x0 x1 : Nat} {e0 e1 : Int} (hv0 : valS M E H low ba = (⟨n0, x0, e0⟩, 0)) (hv1 : valS M E H low bb = (⟨n1, x1, e1⟩, 0)) (hl0 : blen x0 ≤ 4096) (hl1 : blen x1 ≤ 4096) (sa sb : Bool) (hsa : decide (ba / H % 2 = 1) = sa) (hsb : decide (bb / H % 2 = 1) = sb) (d7 : (sa == sb) = false) :
    Calls Tryd.prog 8 #[.int .i64 (B : Int), .int .i64 mode, .int .u64 (ba : Int), .int .u64 (bb : Int)] w fun e w' => e = .returned (.bool true) ∧ Below w.heap.size w w' := by
  have HV0 := Lib.hid hv0
  have HV1 := Lib.hid hv1
  clear hv0 hv1
  have HT0 := Lib.hid hT
  have HSA := Lib.hid hsa
  have HSB := Lib.hid hsb
  clear hsa hsb
  go_enter Tryd.func8, Tryd.ntmps8
  go_wp2_with fail
  refine (awake5_any hT hF).mono ?_
  rintro en w1 ⟨rfl, b⟩
  replace hT := hT.on b
  replace hF := hF.on b
  have BW := b
  clear b
  go_wp2_with fail
  refine (of_fm hf _ hF).mono ?_
  rintro en w2 ⟨rfl, b⟩
  replace hT := hT.on b
  replace hF := hF.on b
  replace BW := Below.step BW b
  clear b
  go_upto_region 4 with fail
  obtain ⟨w3, e_w3⟩ : ∃ w', w2.alloc (.cells #[.int .i64 (B : Int), .int .i64 (P : Int), .int .i64 (W : Int)] 25) = w' := ⟨_, rfl⟩
  have b : Below w2.heap.size w2 w3 := e_w3 ▸ below_lit _ _
  have hs_w3 : w3.heap.size = w2.heap.size + 1 := e_w3 ▸ size_lit w2 _ rfl
  have zf : FB w3 w2.heap.size 25 (B : Int) (P : Int) (W : Int) := e_w3 ▸ FB.made_k w2 rfl 25 _ _ _
  rw [e_w3]
  clear e_w3
  replace hT := hT.on b
  replace hF := hF.on b
  replace BW := Below.step BW b
  clear b
  clear hs_w3
  clear hF
  obtain ⟨zfc0, zfc1, zfc2, zff0, zff1, zff2, zfl⟩ := zf.cells
  go_wp2_with fail
  clear zfc0 zfc1 zfc2 zff0 zff1 zff2 zfl
  obtain ⟨w4, e_w4⟩ : ∃ w', w3.alloc (.cells #[.int .u64 (ba : Int), .int .u64 (bb : Int)] 22) = w' := ⟨_, rfl⟩
  have b : Below w3.heap.size w3 w4 := e_w4 ▸ below_lit _ _
  have hs_w4 : w4.heap.size = w3.heap.size + 1 := e_w4 ▸ size_lit w3 _ rfl
  have ob : OB w4 w3.heap.size [ba, bb] := e_w4 ▸ OB.two w3 rfl ba bb
  rw [e_w4]
  clear e_w4
  replace hT := hT.on b
  replace zf := zf.on b
  replace BW := Below.step BW b
  clear b
  clear hs_w4
  have hsz := BW.size
  have zfl0 := zf.cells.2.2.2.2.2.2
  refine (fin2_ok hf ba bb hba hbb ob hT HV0.out HV1.out).mono ?_
  rintro en w5 ⟨g, cap, cur, V0, v0, V1, v1, rfl, hg, hcur, hcap, hcm, hgs, r0, r1, b⟩
  replace hT := hT.on b
  replace zf := zf.on b
  replace ob := ob.on b
  replace BW := Below.step BW b
  clear b
  clear ob
  have zl : R6 w5 g n0 V0 v0 e0 n1 V1 v1 e1 := ⟨cur, hg, hcur⟩
  clear hg hcur
  have hgf : g ≠ w2.heap.size := by omega
  have hfg : w2.heap.size ≠ g := by omega
  have hgw : w.heap.size ≤ g := by omega
  clear hsz zfl0 hgs hcap hcm
  have l0 := res_n_le r0 (k := 128) hl0
  have l1 := res_n_le r1 (k := 128) hl1
  obtain ⟨zfc0, zfc1, zfc2, zff0, zff1, zff2, zfl⟩ := zf.cells
  go_wp2_with fail
  clear zfc0 zfc1 zfc2 zff0 zff1 zff2 zfl
  replace hT := hT.on ((Below.refl _ _).drew : Below w5.heap.size w5 w5.drew)
  replace zf := zf.on ((Below.refl _ _).drew : Below w5.heap.size w5 w5.drew)
  replace r0 := r0.on ((Below.refl _ _).drew : Below w5.heap.size w5 w5.drew)
  replace r1 := r1.on ((Below.refl _ _).drew : Below w5.heap.size w5 w5.drew)
  replace zl := zl.on ((Below.refl _ _).drew : Below w5.heap.size w5 w5.drew)
  replace BW := Lib.hid (Below.step BW ((Below.refl _ _).drew : Below w5.heap.size w5 w5.drew))
  go_region_held3 (fun w' => w'.cell? ⟨w2.heap.size, 0, none⟩ = some (.int .i64 (B : Int)) ∧ w'.cell? ⟨w2.heap.size, 1, none⟩ = some (.int .i64 (P : Int)) ∧ w'.cell? ⟨w2.heap.size, 2, none⟩ = some (.int .i64 (W : Int)))
    ((first | (with_reducible exact ⟨zf.cells.1, zf.cells.2.1, zf.cells.2.2.1⟩)))
    (first
      | (go_at_call 22
         (with_reducible refine (fneg_as hf ba hba sa HSA.out _).mono ?_)
         rintro en w6 ⟨rfl, b⟩
         replace hT := hT.on b
         replace zf := zf.on b
         replace r0 := r0.on b
         replace r1 := r1.on b
         replace zl := zl.on b
         replace BW := Lib.hid (Below.step BW.out b)
         clear b)
      | (go_at_call 22
         (with_reducible refine (fneg_as hf bb hbb sb HSB.out _).mono ?_)
         rintro en w6 ⟨rfl, b⟩
         replace hT := hT.on b
         replace zf := zf.on b
         replace r0 := r0.on b
         replace r1 := r1.on b
         replace zl := zl.on b
         replace BW := Lib.hid (Below.step BW.out b)
         clear b))
  all_goals replace BW := BW.out
  all_goals (go_wp2_with fail; go_ret; exact ⟨rfl, BW⟩)
set_option maxHeartbeats 4000000 in
set_option maxRecDepth 100000 in
theorem near5_low {B P W M E H : Nat} {low : Int} (hf : Fm B P W M E H low) (mode : Int) (ba bb : Nat) (hba : ba < 18446744073709551616) (hbb : bb < 18446744073709551616) {w : World} (hT : Tab w) (hF : Frm w) (m1 : decide (mode < 0) = false) (m2 : decide (5 ≤ mode) = false) {n0 n1 : Bool} {x0 x1 : Nat} {e0 e1 : Int} (hv0 : valS M E H low ba = (⟨n0, x0, e0⟩, 0)) (hv1 : valS M E H low bb = (⟨n1, x1, e1⟩, 0)) (hl0 : blen x0 ≤ 4096) (hl1 : blen x1 ≤ 4096) (sa sb : Bool) (hsa : decide (ba / H % 2 = 1) = sa) (hsb : decide (bb / H % 2 = 1) = sb) (d7 : (sa == sb) = true) (w0 : -8000 ≤ e0) (w1 : e0 ≤ 8000) (w2 : -8000 ≤ e1) (w3 : e1 ≤ 8000) {lw hi : Int} (hc0 : cmpS ⟨false, x0, e0 + 1⟩ ⟨false, x1, e1⟩ = (lw, 0)) (hc1 : cmpS ⟨false, x0, e0⟩ ⟨false, x1, e1 + 1⟩ = (hi, 0)) (d8 : decide (lw < 0) = true) :
    Calls Tryd.prog 8 #[.int .i64 (B : Int), .int .i64 mode, .int .u64 (ba : Int), .int .u64 (bb : Int)] w fun e w' => e = .returned (.bool true) ∧ Below w.heap.size w w' := by
  have HV0 := Lib.hid hv0
  have HV1 := Lib.hid hv1
  clear hv0 hv1
  have HT0 := Lib.hid hT
  have HSA := Lib.hid hsa
  have HSB := Lib.hid hsb
  clear hsa hsb
  have HC0 := Lib.hid hc0
  have HC1 := Lib.hid hc1
  clear hc0 hc1
  go_enter Tryd.func8, Tryd.ntmps8
  go_wp2_with fail
  refine (awake5_any hT hF).mono ?_
  rintro en w1 ⟨rfl, b⟩
  replace hT := hT.on b
  replace hF := hF.on b
  have BW := b
  clear b
  go_wp2_with fail
  refine (of_fm hf _ hF).mono ?_
  rintro en w2 ⟨rfl, b⟩
  replace hT := hT.on b
  replace hF := hF.on b
  replace BW := Below.step BW b
  clear b
  go_upto_region 4 with fail
  obtain ⟨w3, e_w3⟩ : ∃ w', w2.alloc (.cells #[.int .i64 (B : Int), .int .i64 (P : Int), .int .i64 (W : Int)] 25) = w' := ⟨_, rfl⟩
  have b : Below w2.heap.size w2 w3 := e_w3 ▸ below_lit _ _
  have hs_w3 : w3.heap.size = w2.heap.size + 1 := e_w3 ▸ size_lit w2 _ rfl
  have zf : FB w3 w2.heap.size 25 (B : Int) (P : Int) (W : Int) := e_w3 ▸ FB.made_k w2 rfl 25 _ _ _
  rw [e_w3]
  clear e_w3
  replace hT := hT.on b
  replace hF := hF.on b
  replace BW := Below.step BW b
  clear b
  clear hs_w3
  clear hF
  obtain ⟨zfc0, zfc1, zfc2, zff0, zff1, zff2, zfl⟩ := zf.cells
  go_wp2_with fail
  clear zfc0 zfc1 zfc2 zff0 zff1 zff2 zfl
  obtain ⟨w4, e_w4⟩ : ∃ w', w3.alloc (.cells #[.int .u64 (ba : Int), .int .u64 (bb : Int)] 22) = w' := ⟨_, rfl⟩
  have b : Below w3.heap.size w3 w4 := e_w4 ▸ below_lit _ _
  have hs_w4 : w4.heap.size = w3.heap.size + 1 := e_w4 ▸ size_lit w3 _ rfl
  have ob : OB w4 w3.heap.size [ba, bb] := e_w4 ▸ OB.two w3 rfl ba bb
  rw [e_w4]
  clear e_w4
  replace hT := hT.on b
  replace zf := zf.on b
  replace BW := Below.step BW b
  clear b
  clear hs_w4
  have hsz := BW.size
  have zfl0 := zf.cells.2.2.2.2.2.2
  refine (fin2_ok hf ba bb hba hbb ob hT HV0.out HV1.out).mono ?_
  rintro en w5 ⟨g, cap, cur, V0, v0, V1, v1, rfl, hg, hcur, hcap, hcm, hgs, r0, r1, b⟩
  replace hT := hT.on b
  replace zf := zf.on b
  replace ob := ob.on b
  replace BW := Below.step BW b
  clear b
  clear ob
  have zl : R6 w5 g n0 V0 v0 e0 n1 V1 v1 e1 := ⟨cur, hg, hcur⟩
  clear hg hcur
  have hgf : g ≠ w2.heap.size := by omega
  have hfg : w2.heap.size ≠ g := by omega
  have hgw : w.heap.size ≤ g := by omega
  clear hsz zfl0 hgs hcap hcm
  have l0 := res_n_le r0 (k := 128) hl0
  have l1 := res_n_le r1 (k := 128) hl1
  obtain ⟨zfc0, zfc1, zfc2, zff0, zff1, zff2, zfl⟩ := zf.cells
  go_wp2_with fail
  clear zfc0 zfc1 zfc2 zff0 zff1 zff2 zfl
  replace hT := hT.on ((Below.refl _ _).drew : Below w5.heap.size w5 w5.drew)
  replace zf := zf.on ((Below.refl _ _).drew : Below w5.heap.size w5 w5.drew)
  replace r0 := r0.on ((Below.refl _ _).drew : Below w5.heap.size w5 w5.drew)
  replace r1 := r1.on ((Below.refl _ _).drew : Below w5.heap.size w5 w5.drew)
  replace zl := zl.on ((Below.refl _ _).drew : Below w5.heap.size w5 w5.drew)
  replace BW := Lib.hid (Below.step BW ((Below.refl _ _).drew : Below w5.heap.size w5 w5.drew))
  go_region_held3 (fun w' => w'.cell? ⟨w2.heap.size, 0, none⟩ = some (.int .i64 (B : Int)) ∧ w'.cell? ⟨w2.heap.size, 1, none⟩ = some (.int .i64 (P : Int)) ∧ w'.cell? ⟨w2.heap.size, 2, none⟩ = some (.int .i64 (W : Int)))
    ((first | (with_reducible exact ⟨zf.cells.1, zf.cells.2.1, zf.cells.2.2.1⟩)))
    (first
      | (go_at_call 22
         (with_reducible refine (fneg_as hf ba hba sa HSA.out _).mono ?_)
         rintro en w6 ⟨rfl, b⟩
         replace hT := hT.on b
         replace zf := zf.on b
         replace r0 := r0.on b
         replace r1 := r1.on b
         replace zl := zl.on b
         replace BW := Lib.hid (Below.step BW.out b)
         clear b)
      | (go_at_call 22
         (with_reducible refine (fneg_as hf bb hbb sb HSB.out _).mono ?_)
         rintro en w6 ⟨rfl, b⟩
         replace hT := hT.on b
         replace zf := zf.on b
         replace r0 := r0.on b
         replace r1 := r1.on b
         replace zl := zl.on b
         replace BW := Lib.hid (Below.step BW.out b)
         clear b))
  all_goals replace BW := BW.out
  all_goals (
    obtain ⟨zfc0, zfc1, zfc2, zff0, zff1, zff2, zfl⟩ := zf.cells
    obtain ⟨zlc0, zlc1, zlc2, zlc3, zlc4, zlc5, zlf0, zlf3, zll⟩ := zl.cells
    have zb0 := zl.cell 0 _ rfl
    have zb3 := (zl.cell 3 _ rfl)
    go_upto_region 10 with fail
    clear zfc0 zfc1 zfc2 zff0 zff1 zff2 zfl
    obtain ⟨w7, e_w7⟩ : ∃ w', ((w6.setCell ⟨g, 0, none⟩ (.bool false)).setCell ⟨g, 3, none⟩ (.bool false)) = w' := ⟨_, rfl⟩
    have BW2 : Below w.heap.size w w7 := e_w7 ▸ ((BW.setCell (p := ⟨g, 0, none⟩) hgw (.bool false)).setCell (p := ⟨g, 3, none⟩) hgw (.bool false))
    have zl2 : R6 w7 g false V0 v0 e0 false V1 v1 e1 := e_w7 ▸ zl.put false false
    have zf2 : FB w7 w2.heap.size 25 (B : Int) (P : Int) (W : Int) := e_w7 ▸ (⟨(zf.1.other hgf _).other hgf _, zf.2⟩ : Box ((w6.setCell ⟨g, 0, none⟩ (.bool false)).setCell ⟨g, 3, none⟩ (.bool false)) _ _ _ _ _)
    have s0 : Res w7 V0 v0 x0 := e_w7 ▸ (r0.put zb0 (notU_bool _) (.bool false)).put (u := .bool n1) (by rw [World.cell?_setCell_other]; exact zb3; intro h; injection h with _ h2; omega) (notU_bool _) (.bool false)
    have s1 : Res w7 V1 v1 x1 := e_w7 ▸ (r1.put zb0 (notU_bool _) (.bool false)).put (u := .bool n1) (by rw [World.cell?_setCell_other]; exact zb3; intro h; injection h with _ h2; omega) (notU_bool _) (.bool false)
    have hT2 : Tab w7 := HT0.out.on BW2
    rw [e_w7]
    clear e_w7 zlc0 zlc1 zlc2 zlc3 zlc4 zlc5 zlf0 zlf3 zll zb0 zb3 BW zl zf r0 r1 hT
    have BW := BW2
    have zl := zl2
    have zf := zf2
    have r0 := s0
    have r1 := s1
    have hT := hT2
    clear BW2 zl2 zf2 s0 s1 hT2
    have q0 : IntKind.i64.wrap (e0 + 1) = e0 + 1 := IntWalk.i64_in _ (by omega)
    replace hT := hT.on ((Below.refl _ _).drew : Below w7.heap.size w7 w7.drew)
    replace zf := zf.on ((Below.refl _ _).drew : Below w7.heap.size w7 w7.drew)
    replace r0 := r0.on ((Below.refl _ _).drew : Below w7.heap.size w7 w7.drew)
    replace r1 := r1.on ((Below.refl _ _).drew : Below w7.heap.size w7 w7.drew)
    replace zl := zl.on ((Below.refl _ _).drew : Below w7.heap.size w7 w7.drew)
    replace BW := Lib.hid (Below.step BW ((Below.refl _ _).drew : Below w7.heap.size w7 w7.drew))
    go_region_held3 (fun w' => w'.cell? ⟨g, 0, none⟩ = some (.bool false) ∧ w'.cell? ⟨g, 1, none⟩ = some (.slice V0 v0 v0) ∧ w'.cell? ⟨g, 2, none⟩ = some (.int .i64 e0) ∧ w'.cell? ⟨g, 3, none⟩ = some (.bool false) ∧ w'.cell? ⟨g, 4, none⟩ = some (.slice V1 v1 v1) ∧ w'.cell? ⟨g, 5, none⟩ = some (.int .i64 e1))
      ((first | (with_reducible exact ⟨zl.cells.1, zl.cells.2.1, zl.cells.2.2.1, zl.cells.2.2.2.1, zl.cells.2.2.2.2.1, zl.cells.2.2.2.2.2.1⟩)))
      (first
        | (go_at_call 31
           (with_reducible refine (dcmp_as (r0.arg (by omega)) (r1.arg (by omega)) (by omega) (by omega) hT HC0.out).mono ?_)
           rintro en w8 ⟨rfl, b⟩
           replace hT := hT.on b
           replace zf := zf.on b
           replace r0 := r0.on b
           replace r1 := r1.on b
           replace zl := zl.on b
           replace BW := Lib.hid (Below.step BW.out b)
           clear b))
    all_goals replace BW := BW.out
    clear q0
    go_upto_region 11 with fail
    have q1 : IntKind.i64.wrap (e1 + 1) = e1 + 1 := IntWalk.i64_in _ (by omega)
    replace hT := hT.on ((Below.refl _ _).drew : Below w8.heap.size w8 w8.drew)
    replace zf := zf.on ((Below.refl _ _).drew : Below w8.heap.size w8 w8.drew)
    replace r0 := r0.on ((Below.refl _ _).drew : Below w8.heap.size w8 w8.drew)
    replace r1 := r1.on ((Below.refl _ _).drew : Below w8.heap.size w8 w8.drew)
    replace zl := zl.on ((Below.refl _ _).drew : Below w8.heap.size w8 w8.drew)
    replace BW := Lib.hid (Below.step BW ((Below.refl _ _).drew : Below w8.heap.size w8 w8.drew))
    go_region_held3 (fun w' => w'.cell? ⟨g, 0, none⟩ = some (.bool false) ∧ w'.cell? ⟨g, 1, none⟩ = some (.slice V0 v0 v0) ∧ w'.cell? ⟨g, 2, none⟩ = some (.int .i64 e0) ∧ w'.cell? ⟨g, 3, none⟩ = some (.bool false) ∧ w'.cell? ⟨g, 4, none⟩ = some (.slice V1 v1 v1) ∧ w'.cell? ⟨g, 5, none⟩ = some (.int .i64 e1))
      ((first | (with_reducible exact ⟨zl.cells.1, zl.cells.2.1, zl.cells.2.2.1, zl.cells.2.2.2.1, zl.cells.2.2.2.2.1, zl.cells.2.2.2.2.2.1⟩)))
      (first
        | (go_at_call 31
           (with_reducible refine (dcmp_as (r0.arg (by omega)) (r1.arg (by omega)) (by omega) (by omega) hT HC1.out).mono ?_)
           rintro en w9 ⟨rfl, b⟩
           replace hT := hT.on b
           replace zf := zf.on b
           replace r0 := r0.on b
           replace r1 := r1.on b
           replace zl := zl.on b
           replace BW := Lib.hid (Below.step BW.out b)
           clear b))
    all_goals replace BW := BW.out
    clear q1
    obtain ⟨zfc0, zfc1, zfc2, zff0, zff1, zff2, zfl⟩ := zf.cells
    go_wp2_with fail
    go_ret
    exact ⟨rfl, BW⟩)
set_option maxHeartbeats 4000000 in
set_option maxRecDepth 100000 in
theorem near5_high {B P W M E H : Nat} {low : Int} (hf : Fm B P W M E H low) (mode : Int) (ba bb : Nat) (hba : ba < 18446744073709551616) (hbb : bb < 18446744073709551616) {w : World} (hT : Tab w) (hF : Frm w) (m1 : decide (mode < 0) = false) (m2 : decide (5 ≤ mode) = false) {n0 n1 : Bool} {x0 x1 : Nat} {e0 e1 : Int} (hv0 : valS M E H low ba = (⟨n0, x0, e0⟩, 0)) (hv1 : valS M E H low bb = (⟨n1, x1, e1⟩, 0)) (hl0 : blen x0 ≤ 4096) (hl1 : blen x1 ≤ 4096) (sa sb : Bool) (hsa : decide (ba / H % 2 = 1) = sa) (hsb : decide (bb / H % 2 = 1) = sb) (d7 : (sa == sb) = true) (w0 : -8000 ≤ e0) (w1 : e0 ≤ 8000) (w2 : -8000 ≤ e1) (w3 : e1 ≤ 8000) {lw hi : Int} (hc0 : cmpS ⟨false, x0, e0 + 1⟩ ⟨false, x1, e1⟩ = (lw, 0)) (hc1 : cmpS ⟨false, x0, e0⟩ ⟨false, x1, e1 + 1⟩ = (hi, 0)) (d8 : decide (lw < 0) = false) (d9 : decide (0 < hi) = true) :
    Calls Tryd.prog 8 #[.int .i64 (B : Int), .int .i64 mode, .int .u64 (ba : Int), .int .u64 (bb : Int)] w fun e w' => e = .returned (.bool true) ∧ Below w.heap.size w w' := by
  have HV0 := Lib.hid hv0
  have HV1 := Lib.hid hv1
  clear hv0 hv1
  have HT0 := Lib.hid hT
  have HSA := Lib.hid hsa
  have HSB := Lib.hid hsb
  clear hsa hsb
  have HC0 := Lib.hid hc0
  have HC1 := Lib.hid hc1
  clear hc0 hc1
  go_enter Tryd.func8, Tryd.ntmps8
  go_wp2_with fail
  refine (awake5_any hT hF).mono ?_
  rintro en w1 ⟨rfl, b⟩
  replace hT := hT.on b
  replace hF := hF.on b
  have BW := b
  clear b
  go_wp2_with fail
  refine (of_fm hf _ hF).mono ?_
  rintro en w2 ⟨rfl, b⟩
  replace hT := hT.on b
  replace hF := hF.on b
  replace BW := Below.step BW b
  clear b
  go_upto_region 4 with fail
  obtain ⟨w3, e_w3⟩ : ∃ w', w2.alloc (.cells #[.int .i64 (B : Int), .int .i64 (P : Int), .int .i64 (W : Int)] 25) = w' := ⟨_, rfl⟩
  have b : Below w2.heap.size w2 w3 := e_w3 ▸ below_lit _ _
  have hs_w3 : w3.heap.size = w2.heap.size + 1 := e_w3 ▸ size_lit w2 _ rfl
  have zf : FB w3 w2.heap.size 25 (B : Int) (P : Int) (W : Int) := e_w3 ▸ FB.made_k w2 rfl 25 _ _ _
  rw [e_w3]
  clear e_w3
  replace hT := hT.on b
  replace hF := hF.on b
  replace BW := Below.step BW b
  clear b
  clear hs_w3
  clear hF
  obtain ⟨zfc0, zfc1, zfc2, zff0, zff1, zff2, zfl⟩ := zf.cells
  go_wp2_with fail
  clear zfc0 zfc1 zfc2 zff0 zff1 zff2 zfl
  obtain ⟨w4, e_w4⟩ : ∃ w', w3.alloc (.cells #[.int .u64 (ba : Int), .int .u64 (bb : Int)] 22) = w' := ⟨_, rfl⟩
  have b : Below w3.heap.size w3 w4 := e_w4 ▸ below_lit _ _
  have hs_w4 : w4.heap.size = w3.heap.size + 1 := e_w4 ▸ size_lit w3 _ rfl
  have ob : OB w4 w3.heap.size [ba, bb] := e_w4 ▸ OB.two w3 rfl ba bb
  rw [e_w4]
  clear e_w4
  replace hT := hT.on b
  replace zf := zf.on b
  replace BW := Below.step BW b
  clear b
  clear hs_w4
  have hsz := BW.size
  have zfl0 := zf.cells.2.2.2.2.2.2
  refine (fin2_ok hf ba bb hba hbb ob hT HV0.out HV1.out).mono ?_
  rintro en w5 ⟨g, cap, cur, V0, v0, V1, v1, rfl, hg, hcur, hcap, hcm, hgs, r0, r1, b⟩
  replace hT := hT.on b
  replace zf := zf.on b
  replace ob := ob.on b
  replace BW := Below.step BW b
  clear b
  clear ob
  have zl : R6 w5 g n0 V0 v0 e0 n1 V1 v1 e1 := ⟨cur, hg, hcur⟩
  clear hg hcur
  have hgf : g ≠ w2.heap.size := by omega
  have hfg : w2.heap.size ≠ g := by omega
  have hgw : w.heap.size ≤ g := by omega
  clear hsz zfl0 hgs hcap hcm
  have l0 := res_n_le r0 (k := 128) hl0
  have l1 := res_n_le r1 (k := 128) hl1
  obtain ⟨zfc0, zfc1, zfc2, zff0, zff1, zff2, zfl⟩ := zf.cells
  go_wp2_with fail
  clear zfc0 zfc1 zfc2 zff0 zff1 zff2 zfl
  replace hT := hT.on ((Below.refl _ _).drew : Below w5.heap.size w5 w5.drew)
  replace zf := zf.on ((Below.refl _ _).drew : Below w5.heap.size w5 w5.drew)
  replace r0 := r0.on ((Below.refl _ _).drew : Below w5.heap.size w5 w5.drew)
  replace r1 := r1.on ((Below.refl _ _).drew : Below w5.heap.size w5 w5.drew)
  replace zl := zl.on ((Below.refl _ _).drew : Below w5.heap.size w5 w5.drew)
  replace BW := Lib.hid (Below.step BW ((Below.refl _ _).drew : Below w5.heap.size w5 w5.drew))
  go_region_held3 (fun w' => w'.cell? ⟨w2.heap.size, 0, none⟩ = some (.int .i64 (B : Int)) ∧ w'.cell? ⟨w2.heap.size, 1, none⟩ = some (.int .i64 (P : Int)) ∧ w'.cell? ⟨w2.heap.size, 2, none⟩ = some (.int .i64 (W : Int)))
    ((first | (with_reducible exact ⟨zf.cells.1, zf.cells.2.1, zf.cells.2.2.1⟩)))
    (first
      | (go_at_call 22
         (with_reducible refine (fneg_as hf ba hba sa HSA.out _).mono ?_)
         rintro en w6 ⟨rfl, b⟩
         replace hT := hT.on b
         replace zf := zf.on b
         replace r0 := r0.on b
         replace r1 := r1.on b
         replace zl := zl.on b
         replace BW := Lib.hid (Below.step BW.out b)
         clear b)
      | (go_at_call 22
         (with_reducible refine (fneg_as hf bb hbb sb HSB.out _).mono ?_)
         rintro en w6 ⟨rfl, b⟩
         replace hT := hT.on b
         replace zf := zf.on b
         replace r0 := r0.on b
         replace r1 := r1.on b
         replace zl := zl.on b
         replace BW := Lib.hid (Below.step BW.out b)
         clear b))
  all_goals replace BW := BW.out
  all_goals (
    obtain ⟨zfc0, zfc1, zfc2, zff0, zff1, zff2, zfl⟩ := zf.cells
    obtain ⟨zlc0, zlc1, zlc2, zlc3, zlc4, zlc5, zlf0, zlf3, zll⟩ := zl.cells
    have zb0 := zl.cell 0 _ rfl
    have zb3 := (zl.cell 3 _ rfl)
    go_upto_region 10 with fail
    clear zfc0 zfc1 zfc2 zff0 zff1 zff2 zfl
    obtain ⟨w7, e_w7⟩ : ∃ w', ((w6.setCell ⟨g, 0, none⟩ (.bool false)).setCell ⟨g, 3, none⟩ (.bool false)) = w' := ⟨_, rfl⟩
    have BW2 : Below w.heap.size w w7 := e_w7 ▸ ((BW.setCell (p := ⟨g, 0, none⟩) hgw (.bool false)).setCell (p := ⟨g, 3, none⟩) hgw (.bool false))
    have zl2 : R6 w7 g false V0 v0 e0 false V1 v1 e1 := e_w7 ▸ zl.put false false
    have zf2 : FB w7 w2.heap.size 25 (B : Int) (P : Int) (W : Int) := e_w7 ▸ (⟨(zf.1.other hgf _).other hgf _, zf.2⟩ : Box ((w6.setCell ⟨g, 0, none⟩ (.bool false)).setCell ⟨g, 3, none⟩ (.bool false)) _ _ _ _ _)
    have s0 : Res w7 V0 v0 x0 := e_w7 ▸ (r0.put zb0 (notU_bool _) (.bool false)).put (u := .bool n1) (by rw [World.cell?_setCell_other]; exact zb3; intro h; injection h with _ h2; omega) (notU_bool _) (.bool false)
    have s1 : Res w7 V1 v1 x1 := e_w7 ▸ (r1.put zb0 (notU_bool _) (.bool false)).put (u := .bool n1) (by rw [World.cell?_setCell_other]; exact zb3; intro h; injection h with _ h2; omega) (notU_bool _) (.bool false)
    have hT2 : Tab w7 := HT0.out.on BW2
    rw [e_w7]
    clear e_w7 zlc0 zlc1 zlc2 zlc3 zlc4 zlc5 zlf0 zlf3 zll zb0 zb3 BW zl zf r0 r1 hT
    have BW := BW2
    have zl := zl2
    have zf := zf2
    have r0 := s0
    have r1 := s1
    have hT := hT2
    clear BW2 zl2 zf2 s0 s1 hT2
    have q0 : IntKind.i64.wrap (e0 + 1) = e0 + 1 := IntWalk.i64_in _ (by omega)
    replace hT := hT.on ((Below.refl _ _).drew : Below w7.heap.size w7 w7.drew)
    replace zf := zf.on ((Below.refl _ _).drew : Below w7.heap.size w7 w7.drew)
    replace r0 := r0.on ((Below.refl _ _).drew : Below w7.heap.size w7 w7.drew)
    replace r1 := r1.on ((Below.refl _ _).drew : Below w7.heap.size w7 w7.drew)
    replace zl := zl.on ((Below.refl _ _).drew : Below w7.heap.size w7 w7.drew)
    replace BW := Lib.hid (Below.step BW ((Below.refl _ _).drew : Below w7.heap.size w7 w7.drew))
    go_region_held3 (fun w' => w'.cell? ⟨g, 0, none⟩ = some (.bool false) ∧ w'.cell? ⟨g, 1, none⟩ = some (.slice V0 v0 v0) ∧ w'.cell? ⟨g, 2, none⟩ = some (.int .i64 e0) ∧ w'.cell? ⟨g, 3, none⟩ = some (.bool false) ∧ w'.cell? ⟨g, 4, none⟩ = some (.slice V1 v1 v1) ∧ w'.cell? ⟨g, 5, none⟩ = some (.int .i64 e1))
      ((first | (with_reducible exact ⟨zl.cells.1, zl.cells.2.1, zl.cells.2.2.1, zl.cells.2.2.2.1, zl.cells.2.2.2.2.1, zl.cells.2.2.2.2.2.1⟩)))
      (first
        | (go_at_call 31
           (with_reducible refine (dcmp_as (r0.arg (by omega)) (r1.arg (by omega)) (by omega) (by omega) hT HC0.out).mono ?_)
           rintro en w8 ⟨rfl, b⟩
           replace hT := hT.on b
           replace zf := zf.on b
           replace r0 := r0.on b
           replace r1 := r1.on b
           replace zl := zl.on b
           replace BW := Lib.hid (Below.step BW.out b)
           clear b))
    all_goals replace BW := BW.out
    clear q0
    go_upto_region 11 with fail
    have q1 : IntKind.i64.wrap (e1 + 1) = e1 + 1 := IntWalk.i64_in _ (by omega)
    replace hT := hT.on ((Below.refl _ _).drew : Below w8.heap.size w8 w8.drew)
    replace zf := zf.on ((Below.refl _ _).drew : Below w8.heap.size w8 w8.drew)
    replace r0 := r0.on ((Below.refl _ _).drew : Below w8.heap.size w8 w8.drew)
    replace r1 := r1.on ((Below.refl _ _).drew : Below w8.heap.size w8 w8.drew)
    replace zl := zl.on ((Below.refl _ _).drew : Below w8.heap.size w8 w8.drew)
    replace BW := Lib.hid (Below.step BW ((Below.refl _ _).drew : Below w8.heap.size w8 w8.drew))
    go_region_held3 (fun w' => w'.cell? ⟨g, 0, none⟩ = some (.bool false) ∧ w'.cell? ⟨g, 1, none⟩ = some (.slice V0 v0 v0) ∧ w'.cell? ⟨g, 2, none⟩ = some (.int .i64 e0) ∧ w'.cell? ⟨g, 3, none⟩ = some (.bool false) ∧ w'.cell? ⟨g, 4, none⟩ = some (.slice V1 v1 v1) ∧ w'.cell? ⟨g, 5, none⟩ = some (.int .i64 e1))
      ((first | (with_reducible exact ⟨zl.cells.1, zl.cells.2.1, zl.cells.2.2.1, zl.cells.2.2.2.1, zl.cells.2.2.2.2.1, zl.cells.2.2.2.2.2.1⟩)))
      (first
        | (go_at_call 31
           (with_reducible refine (dcmp_as (r0.arg (by omega)) (r1.arg (by omega)) (by omega) (by omega) hT HC1.out).mono ?_)
           rintro en w9 ⟨rfl, b⟩
           replace hT := hT.on b
           replace zf := zf.on b
           replace r0 := r0.on b
           replace r1 := r1.on b
           replace zl := zl.on b
           replace BW := Lib.hid (Below.step BW.out b)
           clear b))
    all_goals replace BW := BW.out
    clear q1
    obtain ⟨zfc0, zfc1, zfc2, zff0, zff1, zff2, zfl⟩ := zf.cells
    go_wp2_with fail
    go_ret
    exact ⟨rfl, BW⟩)
set_option maxHeartbeats 4000000 in
set_option maxRecDepth 100000 in
theorem near5_main {B P W M E H : Nat} {low : Int} (hf : Fm B P W M E H low) (mode : Int) (ba bb : Nat) (hba : ba < 18446744073709551616) (hbb : bb < 18446744073709551616) {w : World} (hT : Tab w) (hF : Frm w) (m1 : decide (mode < 0) = false) (m2 : decide (5 ≤ mode) = false) {n0 n1 : Bool} {x0 x1 : Nat} {e0 e1 : Int} (hv0 : valS M E H low ba = (⟨n0, x0, e0⟩, 0)) (hv1 : valS M E H low bb = (⟨n1, x1, e1⟩, 0)) (hl0 : blen x0 ≤ 4096) (hl1 : blen x1 ≤ 4096) (sa sb : Bool) (hsa : decide (ba / H % 2 = 1) = sa) (hsb : decide (bb / H % 2 = 1) = sb) (d7 : (sa == sb) = true) (w0 : -8000 ≤ e0) (w1 : e0 ≤ 8000) (w2 : -8000 ≤ e1) (w3 : e1 ≤ 8000) {lw hi : Int} (hc0 : cmpS ⟨false, x0, e0 + 1⟩ ⟨false, x1, e1⟩ = (lw, 0)) (hc1 : cmpS ⟨false, x0, e0⟩ ⟨false, x1, e1 + 1⟩ = (hi, 0)) (d8 : decide (lw < 0) = false) (d9 : decide (0 < hi) = false) {t : Nat} (hsu : subI P M E H low mode ba bb = (t, 0, 0)) :
    Calls Tryd.prog 8 #[.int .i64 (B : Int), .int .i64 mode, .int .u64 (ba : Int), .int .u64 (bb : Int)] w fun e w' => e = .returned (.bool true) ∧ Below w.heap.size w w' := by
  have HV0 := Lib.hid hv0
  have HV1 := Lib.hid hv1
  clear hv0 hv1
  have HT0 := Lib.hid hT
  have HSA := Lib.hid hsa
  have HSB := Lib.hid hsb
  clear hsa hsb
  have HC0 := Lib.hid hc0
  have HC1 := Lib.hid hc1
  clear hc0 hc1
  have HSU := Lib.hid hsu
  clear hsu
  go_enter Tryd.func8, Tryd.ntmps8
  go_wp2_with fail
  refine (awake5_any hT hF).mono ?_
  rintro en w1 ⟨rfl, b⟩
  replace hT := hT.on b
  replace hF := hF.on b
  have BW := b
  clear b
  go_wp2_with fail
  refine (of_fm hf _ hF).mono ?_
  rintro en w2 ⟨rfl, b⟩
  replace hT := hT.on b
  replace hF := hF.on b
  replace BW := Below.step BW b
  clear b
  go_upto_region 4 with fail
  obtain ⟨w3, e_w3⟩ : ∃ w', w2.alloc (.cells #[.int .i64 (B : Int), .int .i64 (P : Int), .int .i64 (W : Int)] 25) = w' := ⟨_, rfl⟩
  have b : Below w2.heap.size w2 w3 := e_w3 ▸ below_lit _ _
  have hs_w3 : w3.heap.size = w2.heap.size + 1 := e_w3 ▸ size_lit w2 _ rfl
  have zf : FB w3 w2.heap.size 25 (B : Int) (P : Int) (W : Int) := e_w3 ▸ FB.made_k w2 rfl 25 _ _ _
  rw [e_w3]
  clear e_w3
  replace hT := hT.on b
  replace hF := hF.on b
  replace BW := Below.step BW b
  clear b
  clear hs_w3
  clear hF
  obtain ⟨zfc0, zfc1, zfc2, zff0, zff1, zff2, zfl⟩ := zf.cells
  go_wp2_with fail
  clear zfc0 zfc1 zfc2 zff0 zff1 zff2 zfl
  obtain ⟨w4, e_w4⟩ : ∃ w', w3.alloc (.cells #[.int .u64 (ba : Int), .int .u64 (bb : Int)] 22) = w' := ⟨_, rfl⟩
  have b : Below w3.heap.size w3 w4 := e_w4 ▸ below_lit _ _
  have hs_w4 : w4.heap.size = w3.heap.size + 1 := e_w4 ▸ size_lit w3 _ rfl
  have ob : OB w4 w3.heap.size [ba, bb] := e_w4 ▸ OB.two w3 rfl ba bb
  rw [e_w4]
  clear e_w4
  replace hT := hT.on b
  replace zf := zf.on b
  replace BW := Below.step BW b
  clear b
  clear hs_w4
  have hsz := BW.size
  have zfl0 := zf.cells.2.2.2.2.2.2
  refine (fin2_ok hf ba bb hba hbb ob hT HV0.out HV1.out).mono ?_
  rintro en w5 ⟨g, cap, cur, V0, v0, V1, v1, rfl, hg, hcur, hcap, hcm, hgs, r0, r1, b⟩
  replace hT := hT.on b
  replace zf := zf.on b
  replace ob := ob.on b
  replace BW := Below.step BW b
  clear b
  clear ob
  have zl : R6 w5 g n0 V0 v0 e0 n1 V1 v1 e1 := ⟨cur, hg, hcur⟩
  clear hg hcur
  have hgf : g ≠ w2.heap.size := by omega
  have hfg : w2.heap.size ≠ g := by omega
  have hgw : w.heap.size ≤ g := by omega
  clear hsz zfl0 hgs hcap hcm
  have l0 := res_n_le r0 (k := 128) hl0
  have l1 := res_n_le r1 (k := 128) hl1
  obtain ⟨zfc0, zfc1, zfc2, zff0, zff1, zff2, zfl⟩ := zf.cells
  go_wp2_with fail
  clear zfc0 zfc1 zfc2 zff0 zff1 zff2 zfl
  replace hT := hT.on ((Below.refl _ _).drew : Below w5.heap.size w5 w5.drew)
  replace zf := zf.on ((Below.refl _ _).drew : Below w5.heap.size w5 w5.drew)
  replace r0 := r0.on ((Below.refl _ _).drew : Below w5.heap.size w5 w5.drew)
  replace r1 := r1.on ((Below.refl _ _).drew : Below w5.heap.size w5 w5.drew)
  replace zl := zl.on ((Below.refl _ _).drew : Below w5.heap.size w5 w5.drew)
  replace BW := Lib.hid (Below.step BW ((Below.refl _ _).drew : Below w5.heap.size w5 w5.drew))
  go_region_held3 (fun w' => w'.cell? ⟨w2.heap.size, 0, none⟩ = some (.int .i64 (B : Int)) ∧ w'.cell? ⟨w2.heap.size, 1, none⟩ = some (.int .i64 (P : Int)) ∧ w'.cell? ⟨w2.heap.size, 2, none⟩ = some (.int .i64 (W : Int)))
    ((first | (with_reducible exact ⟨zf.cells.1, zf.cells.2.1, zf.cells.2.2.1⟩)))
    (first
      | (go_at_call 22
         (with_reducible refine (fneg_as hf ba hba sa HSA.out _).mono ?_)
         rintro en w6 ⟨rfl, b⟩
         replace hT := hT.on b
         replace zf := zf.on b
         replace r0 := r0.on b
         replace r1 := r1.on b
         replace zl := zl.on b
         replace BW := Lib.hid (Below.step BW.out b)
         clear b)
      | (go_at_call 22
         (with_reducible refine (fneg_as hf bb hbb sb HSB.out _).mono ?_)
         rintro en w6 ⟨rfl, b⟩
         replace hT := hT.on b
         replace zf := zf.on b
         replace r0 := r0.on b
         replace r1 := r1.on b
         replace zl := zl.on b
         replace BW := Lib.hid (Below.step BW.out b)
         clear b))
  all_goals replace BW := BW.out
  all_goals (
    obtain ⟨zfc0, zfc1, zfc2, zff0, zff1, zff2, zfl⟩ := zf.cells
    obtain ⟨zlc0, zlc1, zlc2, zlc3, zlc4, zlc5, zlf0, zlf3, zll⟩ := zl.cells
    have zb0 := zl.cell 0 _ rfl
    have zb3 := (zl.cell 3 _ rfl)
    go_upto_region 10 with fail
    clear zfc0 zfc1 zfc2 zff0 zff1 zff2 zfl
    obtain ⟨w7, e_w7⟩ : ∃ w', ((w6.setCell ⟨g, 0, none⟩ (.bool false)).setCell ⟨g, 3, none⟩ (.bool false)) = w' := ⟨_, rfl⟩
    have BW2 : Below w.heap.size w w7 := e_w7 ▸ ((BW.setCell (p := ⟨g, 0, none⟩) hgw (.bool false)).setCell (p := ⟨g, 3, none⟩) hgw (.bool false))
    have zl2 : R6 w7 g false V0 v0 e0 false V1 v1 e1 := e_w7 ▸ zl.put false false
    have zf2 : FB w7 w2.heap.size 25 (B : Int) (P : Int) (W : Int) := e_w7 ▸ (⟨(zf.1.other hgf _).other hgf _, zf.2⟩ : Box ((w6.setCell ⟨g, 0, none⟩ (.bool false)).setCell ⟨g, 3, none⟩ (.bool false)) _ _ _ _ _)
    have s0 : Res w7 V0 v0 x0 := e_w7 ▸ (r0.put zb0 (notU_bool _) (.bool false)).put (u := .bool n1) (by rw [World.cell?_setCell_other]; exact zb3; intro h; injection h with _ h2; omega) (notU_bool _) (.bool false)
    have s1 : Res w7 V1 v1 x1 := e_w7 ▸ (r1.put zb0 (notU_bool _) (.bool false)).put (u := .bool n1) (by rw [World.cell?_setCell_other]; exact zb3; intro h; injection h with _ h2; omega) (notU_bool _) (.bool false)
    have hT2 : Tab w7 := HT0.out.on BW2
    rw [e_w7]
    clear e_w7 zlc0 zlc1 zlc2 zlc3 zlc4 zlc5 zlf0 zlf3 zll zb0 zb3 BW zl zf r0 r1 hT
    have BW := BW2
    have zl := zl2
    have zf := zf2
    have r0 := s0
    have r1 := s1
    have hT := hT2
    clear BW2 zl2 zf2 s0 s1 hT2
    have q0 : IntKind.i64.wrap (e0 + 1) = e0 + 1 := IntWalk.i64_in _ (by omega)
    replace hT := hT.on ((Below.refl _ _).drew : Below w7.heap.size w7 w7.drew)
    replace zf := zf.on ((Below.refl _ _).drew : Below w7.heap.size w7 w7.drew)
    replace r0 := r0.on ((Below.refl _ _).drew : Below w7.heap.size w7 w7.drew)
    replace r1 := r1.on ((Below.refl _ _).drew : Below w7.heap.size w7 w7.drew)
    replace zl := zl.on ((Below.refl _ _).drew : Below w7.heap.size w7 w7.drew)
    replace BW := Lib.hid (Below.step BW ((Below.refl _ _).drew : Below w7.heap.size w7 w7.drew))
    go_region_held3 (fun w' => w'.cell? ⟨g, 0, none⟩ = some (.bool false) ∧ w'.cell? ⟨g, 1, none⟩ = some (.slice V0 v0 v0) ∧ w'.cell? ⟨g, 2, none⟩ = some (.int .i64 e0) ∧ w'.cell? ⟨g, 3, none⟩ = some (.bool false) ∧ w'.cell? ⟨g, 4, none⟩ = some (.slice V1 v1 v1) ∧ w'.cell? ⟨g, 5, none⟩ = some (.int .i64 e1))
      ((first | (with_reducible exact ⟨zl.cells.1, zl.cells.2.1, zl.cells.2.2.1, zl.cells.2.2.2.1, zl.cells.2.2.2.2.1, zl.cells.2.2.2.2.2.1⟩)))
      (first
        | (go_at_call 31
           (with_reducible refine (dcmp_as (r0.arg (by omega)) (r1.arg (by omega)) (by omega) (by omega) hT HC0.out).mono ?_)
           rintro en w8 ⟨rfl, b⟩
           replace hT := hT.on b
           replace zf := zf.on b
           replace r0 := r0.on b
           replace r1 := r1.on b
           replace zl := zl.on b
           replace BW := Lib.hid (Below.step BW.out b)
           clear b))
    all_goals replace BW := BW.out
    clear q0
    go_upto_region 11 with fail
    have q1 : IntKind.i64.wrap (e1 + 1) = e1 + 1 := IntWalk.i64_in _ (by omega)
    replace hT := hT.on ((Below.refl _ _).drew : Below w8.heap.size w8 w8.drew)
    replace zf := zf.on ((Below.refl _ _).drew : Below w8.heap.size w8 w8.drew)
    replace r0 := r0.on ((Below.refl _ _).drew : Below w8.heap.size w8 w8.drew)
    replace r1 := r1.on ((Below.refl _ _).drew : Below w8.heap.size w8 w8.drew)
    replace zl := zl.on ((Below.refl _ _).drew : Below w8.heap.size w8 w8.drew)
    replace BW := Lib.hid (Below.step BW ((Below.refl _ _).drew : Below w8.heap.size w8 w8.drew))
    go_region_held3 (fun w' => w'.cell? ⟨g, 0, none⟩ = some (.bool false) ∧ w'.cell? ⟨g, 1, none⟩ = some (.slice V0 v0 v0) ∧ w'.cell? ⟨g, 2, none⟩ = some (.int .i64 e0) ∧ w'.cell? ⟨g, 3, none⟩ = some (.bool false) ∧ w'.cell? ⟨g, 4, none⟩ = some (.slice V1 v1 v1) ∧ w'.cell? ⟨g, 5, none⟩ = some (.int .i64 e1))
      ((first | (with_reducible exact ⟨zl.cells.1, zl.cells.2.1, zl.cells.2.2.1, zl.cells.2.2.2.1, zl.cells.2.2.2.2.1, zl.cells.2.2.2.2.2.1⟩)))
      (first
        | (go_at_call 31
           (with_reducible refine (dcmp_as (r0.arg (by omega)) (r1.arg (by omega)) (by omega) (by omega) hT HC1.out).mono ?_)
           rintro en w9 ⟨rfl, b⟩
           replace hT := hT.on b
           replace zf := zf.on b
           replace r0 := r0.on b
           replace r1 := r1.on b
           replace zl := zl.on b
           replace BW := Lib.hid (Below.step BW.out b)
           clear b))
    all_goals replace BW := BW.out
    clear q1
    obtain ⟨zfc0, zfc1, zfc2, zff0, zff1, zff2, zfl⟩ := zf.cells
    go_wp2_with fail
    refine (sub_as hf mode ba bb hba hbb hT HSU.out).mono ?_
    rintro en w10 ⟨rfl, b⟩
    clear zfc0 zfc1 zfc2 zff0 zff1 zff2 zfl
    replace hT := hT.on b
    replace zf := zf.on b
    replace r0 := r0.on b
    replace r1 := r1.on b
    replace zl := zl.on b
    replace BW := Below.step BW b
    clear b
    go_wp2_with fail
    go_ret
    exact ⟨rfl, BW⟩)
theorem inn_top {lo hi : Int} {L : Nat} {d : D} (hp : d.plain) (h : d.inn lo hi L) (h1 : -1074 ≤ lo := by omega) (h2 : hi ≤ 1024 := by omega) : d.e ≤ 1024 := by
  by_cases h0 : d.x = 0
  · rcases hp with ⟨_, _, he⟩ | hp
    · omega
    · omega
  · have := (h h0).2.1
    omega
theorem near5_walk (bits : Int) (mode : Int) (ba : Nat) (hba : ba < 18446744073709551616) (bb : Nat) (hbb : bb < 18446744073709551616) {w : World} (hT : Tab w) (hF : Frm w) :
    Calls Tryd.prog 8 #[.int .i64 bits, .int .i64 mode, .int .u64 (ba : Int), .int .u64 (bb : Int)] w fun e w' => e = .returned (.bool true) ∧ Below w.heap.size w w' := by
  rcases fm_of bits with ⟨B, P, W, M, E, H, low, hf, rfl⟩ | ⟨h1, h2, h3⟩
  · have hbd := hf.bd
    by_cases m1 : mode < 0
    · exact near5_m1 hf mode ba bb hba hbb hT hF (decide_eq_true m1)
    by_cases m2 : 5 ≤ mode
    · exact near5_m2 hf mode ba bb hba hbb hT hF (decide_eq_false m1) (decide_eq_true m2)
    have hm : 0 ≤ mode ∧ mode ≤ 4 := by omega
    have k1 := decide_eq_false m1
    have k2 := decide_eq_false m2
    obtain ⟨⟨⟨n0, x0, e0⟩, ea⟩, hva⟩ : ∃ r, valS M E H low ba = r := ⟨_, rfl⟩
    obtain ⟨⟨⟨n1, x1, e1⟩, eb⟩, hvb⟩ : ∃ r, valS M E H low bb = r := ⟨_, rfl⟩
    by_cases ha : ea ≠ 0
    · have hd := val_err hva ha
      rw [hd] at hva
      exact near5_v0 hf mode ba bb hba hbb hT hF k1 k2 hva (by simpa using ha)
    obtain rfl : ea = 0 := by omega
    by_cases hb : eb ≠ 0
    · have hd := val_err hvb hb
      rw [hd] at hvb
      exact near5_v1 hf mode ba bb hba hbb hT hF k1 k2 hva hvb (by simpa using hb)
    obtain rfl : eb = 0 := by omega
    obtain ⟨a1, ca⟩ := val_ok hf hva
    obtain ⟨b1, cb⟩ := val_ok hf hvb
    have va := val_in hf ba
    have vb := val_in hf bb
    have hnt := near_told hf a1 b1 ca cb
    rw [hva, hvb] at hnt
    rw [hva] at va
    rw [hvb] at vb
    simp only at va vb hnt
    by_cases hs : ngB H ba = ngB H bb
    · have d7 : (ngB H ba == ngB H bb) = true := by simpa using hs
      have hb0 := inn_top va.2.2.2.1 va.2.1
      have hb1 := inn_top vb.2.2.2.1 vb.2.1
      simp only at hb0 hb1
      have mA : D.may ⟨false, x0, e0⟩ = true := va.1
      have mB : D.may ⟨false, x1, e1⟩ = true := vb.1
      have mA2 : D.may ⟨false, x0, e0 + 1⟩ = true := (D.may_iff _).2 ⟨by show blen x0 ≤ 4096; omega, by show -8192 ≤ e0 + 1; omega, by show e0 + 1 ≤ 8192; omega⟩
      have mB2 : D.may ⟨false, x1, e1 + 1⟩ = true := (D.may_iff _).2 ⟨by show blen x1 ≤ 4096; omega, by show -8192 ≤ e1 + 1; omega, by show e1 + 1 ≤ 8192; omega⟩
      have c0 := cmpS_ok mA2 mB
      have c1 := cmpS_ok mA mB2
      have sA : (⟨false, x0, e0⟩ : D).vl = ((⟨n0, x0, e0⟩ : D).vl.natAbs : Int) := by rw [D.vl_natAbs]; unfold D.vl D.sz; simp
      have sB : (⟨false, x1, e1⟩ : D).vl = ((⟨n1, x1, e1⟩ : D).vl.natAbs : Int) := by rw [D.vl_natAbs]; unfold D.vl D.sz; simp
      rw [twice_vl (by omega), sA, sB] at c0
      rw [twice_vl (by omega), sA, sB] at c1
      generalize (⟨n0, x0, e0⟩ : D).vl.natAbs = X at *
      generalize (⟨n1, x1, e1⟩ : D).vl.natAbs = Y at *
      by_cases h8 : cmpI (2 * (X : Int)) (Y : Int) < 0
      · exact near5_low hf mode ba bb hba hbb hT hF k1 k2 hva hvb (by omega) (by omega) _ _ rfl rfl d7 (by omega) (by omega) (by omega) (by omega) c0 c1 (decide_eq_true h8)
      by_cases h9 : 0 < cmpI (X : Int) (2 * (Y : Int))
      · exact near5_high hf mode ba bb hba hbb hT hF k1 k2 hva hvb (by omega) (by omega) _ _ rfl rfl d7 (by omega) (by omega) (by omega) (by omega) c0 c1 (decide_eq_false h8) (decide_eq_true h9)
      have g1 := cmpI_cases (2 * (X : Int)) (Y : Int)
      have g2 := cmpI_cases (X : Int) (2 * (Y : Int))
      obtain ⟨t, ht⟩ := hnt hs hm (by omega) (by omega)
      exact near5_main hf mode ba bb hba hbb hT hF k1 k2 hva hvb (by omega) (by omega) _ _ rfl rfl d7 (by omega) (by omega) (by omega) (by omega) c0 c1 (decide_eq_false h8) (decide_eq_false h9) ht
    · have d7 : (ngB H ba == ngB H bb) = false := by simpa using hs
      exact near5_sign hf mode ba bb hba hbb hT hF k1 k2 hva hvb (by omega) (by omega) _ _ rfl rfl d7
  · exact near5_bad bits mode ba bb h1 h2 h3 hT hF
end Go.Proofs.YtpachoeignpcbaaDoor
