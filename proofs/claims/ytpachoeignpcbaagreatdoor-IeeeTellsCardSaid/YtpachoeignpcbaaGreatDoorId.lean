
/-
  ieee's sum and product of terms.
-/
import Derived.Test.YtpachoeignpcbaaGreatDoorIc
namespace Go.Proofs.YtpachoeignpcbaaGreatDoor
open Go.RowKit
set_option linter.unusedVariables false

theorem sframe (w : World) (t t1 : TypeId) (a b c : Int) (g1 i1 d1 : Bool) (A1 : Option Addr) (n1 c1 : Nat) (e1 : Int) (g2 i2 d2 : Bool) (A2 : Option Addr) (n2 c2 : Nat) (e2 : Int) :
    ∃ W, ((w.alloc (.cells #[.int .i64 a, .int .i64 b, .int .i64 c] t)).alloc (tob g1 i1 d1 A1 n1 c1 e1 t1)).alloc (tob g2 i2 d2 A2 n2 c2 e2 t1) = W ∧ FB W w.heap.size t a b c ∧ TB W (w.heap.size + 1) t1 g1 i1 d1 A1 n1 c1 e1 ∧ TB W (w.heap.size + 1 + 1) t1 g2 i2 d2 A2 n2 c2 e2 ∧ Below w.heap.size w W ∧ W.heap.size = w.heap.size + 3 :=
  ⟨_, rfl, ((Box.made w t (notU_int _) (notU_int _) (notU_int _)).alloc _).alloc _, (TB.made _ (by simp) t1 g1 i1 d1 A1 n1 c1 e1).alloc _, TB.made _ (by simp) t1 g2 i2 d2 A2 n2 c2 e2, (((Below.refl _ _).alloc (by simp <;> omega) _).alloc (by simp <;> omega) _).alloc (by simp <;> omega) _, by simp⟩
theorem sum_bad {B P W M E H : Nat} {low : Int} (hf : Fm B P W M E H low) {A1 A2 : Option Addr} {n1 c1 n2 c2 x1 x2 : Nat} {g1 d1 g2 d2 : Bool} {e1 e2 : Int} {w : World} (h1 : Arg w A1 n1 c1 x1) (h2 : Arg w A2 n2 c2 x2) (s1 : n1 ≤ 30000) (s2 : n2 ≤ 30000) (hT : Tab w) (mode : Int) (d3 : (g1 == g2) = false) (v : Nat) (hv : M * E + M / 2 = v) :
    Calls Tryz.prog 19 #[.agg #[.int .i64 (B : Int), .int .i64 (P : Int), .int .i64 (W : Int)], .int .i64 mode, .agg #[.bool g1, .bool true, .bool d1, .slice A1 n1 c1, .int .i64 e1], .agg #[.bool g2, .bool true, .bool d2, .slice A2 n2 c2, .int .i64 e2]] w (ToX w v 16 0) := by
  go_enter Tryz.func19, Tryz.ntmps19
  go_wp2_with fail
  obtain ⟨V, hV, z4, z6, z7, BW, sW⟩ := sframe w 25 50 (B : Int) (P : Int) (W : Int) g1 true d1 A1 n1 c1 e1 g2 true d2 A2 n2 c2 e2
  rw [hV]
  clear hV sW
  replace hT := hT.on BW
  replace h1 := h1.on BW
  replace h2 := h2.on BW
  obtain ⟨z4c0, z4c1, z4c2, z4f0, z4f1, z4f2, z4l⟩ := z4.cells
  obtain ⟨z6c0, z6c1, z6c2, z6c3, z6c4, z6f0, z6f1, z6f2, z6f3, z6f4, z6l⟩ := z6.cells
  obtain ⟨z7c0, z7c1, z7c2, z7c3, z7c4, z7f0, z7f1, z7f2, z7f3, z7f4, z7l⟩ := z7.cells
  go_wp2_with fail
  refine (unmade_as hf v hv _).mono ?_
  rintro en w1 ⟨rfl, b⟩
  clear z4c0 z4c1 z4c2 z4f0 z4f1 z4f2 z4l z6c0 z6c1 z6c2 z6c3 z6c4 z6f0 z6f1 z6f2 z6f3 z6f4 z6l z7c0 z7c1 z7c2 z7c3 z7c4 z7f0 z7f1 z7f2 z7f3 z7f4 z7l
  replace z4 := z4.on b
  replace z6 := z6.on b
  replace z7 := z7.on b
  replace hT := hT.on b
  replace h1 := h1.on b
  replace h2 := h2.on b
  replace BW := Below.step BW b
  clear b
  go_wp2_with fail
  refine bodyPost_ret (v := .tuple #[.int .u64 (v : Int), .int .i64 16, .int .i64 0]) (by simp [results, Tryz.results19, go_sem]) rfl ⟨rfl, BW⟩
theorem sum_xtrue {B P W M E H : Nat} {low : Int} (hf : Fm B P W M E H low) {A1 A2 : Option Addr} {n1 c1 n2 c2 x1 x2 : Nat} {g1 d1 g2 d2 : Bool} {e1 e2 : Int} {w : World} (h1 : Arg w A1 n1 c1 x1) (h2 : Arg w A2 n2 c2 x2) (s1 : n1 ≤ 30000) (s2 : n2 ≤ 30000) (hT : Tab w) (mode : Int) (d3 : (g1 == g2) = true) (v : Nat) (hv : sgn H g1 (M * E) = v) :
    Calls Tryz.prog 19 #[.agg #[.int .i64 (B : Int), .int .i64 (P : Int), .int .i64 (W : Int)], .int .i64 mode, .agg #[.bool g1, .bool true, .bool d1, .slice A1 n1 c1, .int .i64 e1], .agg #[.bool g2, .bool true, .bool d2, .slice A2 n2 c2, .int .i64 e2]] w (ToX w v 0 0) := by
  go_enter Tryz.func19, Tryz.ntmps19
  go_wp2_with fail
  obtain ⟨V, hV, z4, z6, z7, BW, sW⟩ := sframe w 25 50 (B : Int) (P : Int) (W : Int) g1 true d1 A1 n1 c1 e1 g2 true d2 A2 n2 c2 e2
  rw [hV]
  clear hV sW
  replace hT := hT.on BW
  replace h1 := h1.on BW
  replace h2 := h2.on BW
  obtain ⟨z4c0, z4c1, z4c2, z4f0, z4f1, z4f2, z4l⟩ := z4.cells
  obtain ⟨z6c0, z6c1, z6c2, z6c3, z6c4, z6f0, z6f1, z6f2, z6f3, z6f4, z6l⟩ := z6.cells
  obtain ⟨z7c0, z7c1, z7c2, z7c3, z7c4, z7f0, z7f1, z7f2, z7f3, z7f4, z7l⟩ := z7.cells
  go_wp2_with fail
  refine (bits_inf hf h1 s1 hT mode v hv).mono ?_
  rintro en w1 ⟨rfl, b⟩
  clear z4c0 z4c1 z4c2 z4f0 z4f1 z4f2 z4l z6c0 z6c1 z6c2 z6c3 z6c4 z6f0 z6f1 z6f2 z6f3 z6f4 z6l z7c0 z7c1 z7c2 z7c3 z7c4 z7f0 z7f1 z7f2 z7f3 z7f4 z7l
  replace z4 := z4.on b
  replace z6 := z6.on b
  replace z7 := z7.on b
  replace hT := hT.on b
  replace h1 := h1.on b
  replace h2 := h2.on b
  replace BW := Below.step BW b
  clear b
  go_wp2_with fail
  refine bodyPost_ret (v := .tuple #[.int .u64 (v : Int), .int .i64 0, .int .i64 0]) (by simp [results, Tryz.results19, go_sem]) rfl ⟨rfl, BW⟩
theorem sum_xfalse {B P W M E H : Nat} {low : Int} (hf : Fm B P W M E H low) {A1 A2 : Option Addr} {n1 c1 n2 c2 x1 x2 : Nat} {g1 d1 g2 d2 : Bool} {e1 e2 : Int} {w : World} (h1 : Arg w A1 n1 c1 x1) (h2 : Arg w A2 n2 c2 x2) (s1 : n1 ≤ 30000) (s2 : n2 ≤ 30000) (hT : Tab w) (mode : Int) (v : Nat) (hv : sgn H g1 (M * E) = v) :
    Calls Tryz.prog 19 #[.agg #[.int .i64 (B : Int), .int .i64 (P : Int), .int .i64 (W : Int)], .int .i64 mode, .agg #[.bool g1, .bool true, .bool d1, .slice A1 n1 c1, .int .i64 e1], .agg #[.bool g2, .bool false, .bool d2, .slice A2 n2 c2, .int .i64 e2]] w (ToX w v 0 0) := by
  go_enter Tryz.func19, Tryz.ntmps19
  go_wp2_with fail
  obtain ⟨V, hV, z4, z6, z7, BW, sW⟩ := sframe w 25 50 (B : Int) (P : Int) (W : Int) g1 true d1 A1 n1 c1 e1 g2 false d2 A2 n2 c2 e2
  rw [hV]
  clear hV sW
  replace hT := hT.on BW
  replace h1 := h1.on BW
  replace h2 := h2.on BW
  obtain ⟨z4c0, z4c1, z4c2, z4f0, z4f1, z4f2, z4l⟩ := z4.cells
  obtain ⟨z6c0, z6c1, z6c2, z6c3, z6c4, z6f0, z6f1, z6f2, z6f3, z6f4, z6l⟩ := z6.cells
  obtain ⟨z7c0, z7c1, z7c2, z7c3, z7c4, z7f0, z7f1, z7f2, z7f3, z7f4, z7l⟩ := z7.cells
  go_wp2_with fail
  refine (bits_inf hf h1 s1 hT mode v hv).mono ?_
  rintro en w1 ⟨rfl, b⟩
  clear z4c0 z4c1 z4c2 z4f0 z4f1 z4f2 z4l z6c0 z6c1 z6c2 z6c3 z6c4 z6f0 z6f1 z6f2 z6f3 z6f4 z6l z7c0 z7c1 z7c2 z7c3 z7c4 z7f0 z7f1 z7f2 z7f3 z7f4 z7l
  replace z4 := z4.on b
  replace z6 := z6.on b
  replace z7 := z7.on b
  replace hT := hT.on b
  replace h1 := h1.on b
  replace h2 := h2.on b
  replace BW := Below.step BW b
  clear b
  go_wp2_with fail
  refine bodyPost_ret (v := .tuple #[.int .u64 (v : Int), .int .i64 0, .int .i64 0]) (by simp [results, Tryz.results19, go_sem]) rfl ⟨rfl, BW⟩
theorem sum_y {B P W M E H : Nat} {low : Int} (hf : Fm B P W M E H low) {A1 A2 : Option Addr} {n1 c1 n2 c2 x1 x2 : Nat} {g1 d1 g2 d2 : Bool} {e1 e2 : Int} {w : World} (h1 : Arg w A1 n1 c1 x1) (h2 : Arg w A2 n2 c2 x2) (s1 : n1 ≤ 30000) (s2 : n2 ≤ 30000) (hT : Tab w) (mode : Int) (v : Nat) (hv : sgn H g2 (M * E) = v) :
    Calls Tryz.prog 19 #[.agg #[.int .i64 (B : Int), .int .i64 (P : Int), .int .i64 (W : Int)], .int .i64 mode, .agg #[.bool g1, .bool false, .bool d1, .slice A1 n1 c1, .int .i64 e1], .agg #[.bool g2, .bool true, .bool d2, .slice A2 n2 c2, .int .i64 e2]] w (ToX w v 0 0) := by
  go_enter Tryz.func19, Tryz.ntmps19
  go_wp2_with fail
  obtain ⟨V, hV, z4, z6, z7, BW, sW⟩ := sframe w 25 50 (B : Int) (P : Int) (W : Int) g1 false d1 A1 n1 c1 e1 g2 true d2 A2 n2 c2 e2
  rw [hV]
  clear hV sW
  replace hT := hT.on BW
  replace h1 := h1.on BW
  replace h2 := h2.on BW
  obtain ⟨z4c0, z4c1, z4c2, z4f0, z4f1, z4f2, z4l⟩ := z4.cells
  obtain ⟨z6c0, z6c1, z6c2, z6c3, z6c4, z6f0, z6f1, z6f2, z6f3, z6f4, z6l⟩ := z6.cells
  obtain ⟨z7c0, z7c1, z7c2, z7c3, z7c4, z7f0, z7f1, z7f2, z7f3, z7f4, z7l⟩ := z7.cells
  go_wp2_with fail
  refine (bits_inf hf h2 s2 hT mode v hv).mono ?_
  rintro en w1 ⟨rfl, b⟩
  clear z4c0 z4c1 z4c2 z4f0 z4f1 z4f2 z4l z6c0 z6c1 z6c2 z6c3 z6c4 z6f0 z6f1 z6f2 z6f3 z6f4 z6l z7c0 z7c1 z7c2 z7c3 z7c4 z7f0 z7f1 z7f2 z7f3 z7f4 z7l
  replace z4 := z4.on b
  replace z6 := z6.on b
  replace z7 := z7.on b
  replace hT := hT.on b
  replace h1 := h1.on b
  replace h2 := h2.on b
  replace BW := Below.step BW b
  clear b
  go_wp2_with fail
  refine bodyPost_ret (v := .tuple #[.int .u64 (v : Int), .int .i64 0, .int .i64 0]) (by simp [results, Tryz.results19, go_sem]) rfl ⟨rfl, BW⟩
set_option maxHeartbeats 4000000 in
theorem sum_fin {B P W M E H : Nat} {low : Int} (hf : Fm B P W M E H low) {A1 A2 : Option Addr} {n1 c1 n2 c2 x1 x2 : Nat} {g1 d1 g2 d2 : Bool} {e1 e2 : Int} {w : World} (h1 : Arg w A1 n1 c1 x1) (h2 : Arg w A2 n2 c2 x2) (s1 : n1 ≤ 30000) (s2 : n2 ≤ 30000) (hT : Tab w) (mode : Int) {rn : Bool} {rx : Nat} {re ae : Int} (ha : addS ⟨d1, x1, e1⟩ ⟨d2, x2, e2⟩ = (⟨rn, rx, re⟩, ae)) (hl : blen rx ≤ 4096) (ng : Bool) (hn : ntS mode g1 g2 = ng) {v : Nat} {fl err : Int} (hr : roundS P M E H low mode ⟨rn, rx, re⟩ ng = (v, fl, err)) :
    Calls Tryz.prog 19 #[.agg #[.int .i64 (B : Int), .int .i64 (P : Int), .int .i64 (W : Int)], .int .i64 mode, .agg #[.bool g1, .bool false, .bool d1, .slice A1 n1 c1, .int .i64 e1], .agg #[.bool g2, .bool false, .bool d2, .slice A2 n2 c2, .int .i64 e2]] w (ToX w v fl err) := by
  have HA := Lib.hid ha
  have HN := Lib.hid hn
  have HR := Lib.hid hr
  clear ha hn hr
  go_enter Tryz.func19, Tryz.ntmps19
  go_wp2_with fail
  obtain ⟨V, hV, z4, z6, z7, BW, sW⟩ := sframe w 25 50 (B : Int) (P : Int) (W : Int) g1 false d1 A1 n1 c1 e1 g2 false d2 A2 n2 c2 e2
  rw [hV]
  clear hV sW
  replace hT := hT.on BW
  replace h1 := h1.on BW
  replace h2 := h2.on BW
  obtain ⟨z4c0, z4c1, z4c2, z4f0, z4f1, z4f2, z4l⟩ := z4.cells
  obtain ⟨z6c0, z6c1, z6c2, z6c3, z6c4, z6f0, z6f1, z6f2, z6f3, z6f4, z6l⟩ := z6.cells
  obtain ⟨z7c0, z7c1, z7c2, z7c3, z7c4, z7f0, z7f1, z7f2, z7f3, z7f4, z7l⟩ := z7.cells
  go_wp2_with fail
  refine (dadd_as h1 h2 s1 s2 hT HA.out).mono ?_
  rintro en w1 ⟨V_r, v_r, rfl, r, b⟩
  clear z4c0 z4c1 z4c2 z4f0 z4f1 z4f2 z4l z6c0 z6c1 z6c2 z6c3 z6c4 z6f0 z6f1 z6f2 z6f3 z6f4 z6l z7c0 z7c1 z7c2 z7c3 z7c4 z7f0 z7f1 z7f2 z7f3 z7f4 z7l
  replace z4 := z4.on b
  replace z6 := z6.on b
  replace z7 := z7.on b
  replace hT := hT.on b
  replace h1 := h1.on b
  replace h2 := h2.on b
  replace BW := Below.step BW b
  clear b
  have lr := res_n_le r (k := 128) hl
  obtain ⟨z4c0, z4c1, z4c2, z4f0, z4f1, z4f2, z4l⟩ := z4.cells
  obtain ⟨z6c0, z6c1, z6c2, z6c3, z6c4, z6f0, z6f1, z6f2, z6f3, z6f4, z6l⟩ := z6.cells
  obtain ⟨z7c0, z7c1, z7c2, z7c3, z7c4, z7f0, z7f1, z7f2, z7f3, z7f4, z7l⟩ := z7.cells
  go_upto_region 8 with fail
  clear z4c0 z4c1 z4c2 z4f0 z4f1 z4f2 z4l z6c0 z6c1 z6c2 z6c3 z6c4 z6f0 z6f1 z6f2 z6f3 z6f4 z6l z7c0 z7c1 z7c2 z7c3 z7c4 z7f0 z7f1 z7f2 z7f3 z7f4 z7l
  obtain ⟨w2, e_w2⟩ : ∃ w', w1.alloc (dob rn V_r v_r v_r re 48) = w' := ⟨_, rfl⟩
  have b : Below w1.heap.size w1 w2 := e_w2 ▸ below_lit _ _
  have hs_w2 : w2.heap.size = w1.heap.size + 1 := e_w2 ▸ size_lit w1 _ rfl
  have zd : DB w2 w1.heap.size 48 rn V_r v_r v_r re := e_w2 ▸ DB.made w1 rfl 48 rn V_r v_r v_r re
  rw [e_w2]
  clear e_w2
  replace z4 := z4.on b
  replace z6 := z6.on b
  replace z7 := z7.on b
  replace hT := hT.on b
  replace h1 := h1.on b
  replace h2 := h2.on b
  replace r := r.on b
  replace BW := Below.step BW b
  clear b
  clear hs_w2
  replace z4 := z4.on ((Below.refl _ _).drew : Below w2.heap.size w2 w2.drew)
  replace z6 := z6.on ((Below.refl _ _).drew : Below w2.heap.size w2 w2.drew)
  replace z7 := z7.on ((Below.refl _ _).drew : Below w2.heap.size w2 w2.drew)
  replace hT := hT.on ((Below.refl _ _).drew : Below w2.heap.size w2 w2.drew)
  replace h1 := h1.on ((Below.refl _ _).drew : Below w2.heap.size w2 w2.drew)
  replace h2 := h2.on ((Below.refl _ _).drew : Below w2.heap.size w2 w2.drew)
  replace r := r.on ((Below.refl _ _).drew : Below w2.heap.size w2 w2.drew)
  replace zd := zd.on ((Below.refl _ _).drew : Below w2.heap.size w2 w2.drew)
  replace BW := Lib.hid (Below.step BW ((Below.refl _ _).drew : Below w2.heap.size w2 w2.drew))
  go_region_held3 (fun w' => w'.cell? ⟨w.heap.size, 0, none⟩ = some (.int .i64 (B : Int)) ∧ w'.cell? ⟨w.heap.size, 1, none⟩ = some (.int .i64 (P : Int)) ∧ w'.cell? ⟨w.heap.size, 2, none⟩ = some (.int .i64 (W : Int)) ∧ w'.cell? ⟨w.heap.size + 1, 0, none⟩ = some (.bool g1) ∧ w'.cell? ⟨w.heap.size + 1, 1, none⟩ = some (.bool false) ∧ w'.cell? ⟨w.heap.size + 1, 2, none⟩ = some (.bool d1) ∧ w'.cell? ⟨w.heap.size + 1, 3, none⟩ = some (.slice A1 n1 c1) ∧ w'.cell? ⟨w.heap.size + 1, 4, none⟩ = some (.int .i64 e1) ∧ w'.cell? ⟨w.heap.size + 1 + 1, 0, none⟩ = some (.bool g2) ∧ w'.cell? ⟨w.heap.size + 1 + 1, 1, none⟩ = some (.bool false) ∧ w'.cell? ⟨w.heap.size + 1 + 1, 2, none⟩ = some (.bool d2) ∧ w'.cell? ⟨w.heap.size + 1 + 1, 3, none⟩ = some (.slice A2 n2 c2) ∧ w'.cell? ⟨w.heap.size + 1 + 1, 4, none⟩ = some (.int .i64 e2) ∧ w'.cell? ⟨w1.heap.size, 0, none⟩ = some (.bool rn) ∧ w'.cell? ⟨w1.heap.size, 1, none⟩ = some (.slice V_r v_r v_r) ∧ w'.cell? ⟨w1.heap.size, 2, none⟩ = some (.int .i64 re))
    ((first | (with_reducible exact ⟨z4.cells.1, z4.cells.2.1, z4.cells.2.2.1, z6.cells.1, z6.cells.2.1, z6.cells.2.2.1, z6.cells.2.2.2.1, z6.cells.2.2.2.2.1, z7.cells.1, z7.cells.2.1, z7.cells.2.2.1, z7.cells.2.2.2.1, z7.cells.2.2.2.2.1, zd.cells.1, zd.cells.2.1, zd.cells.2.2.1⟩)))
    (first
      | (go_at_call 45
         (with_reducible refine (nought_is mode ng HN.out _).mono ?_)
         rintro en w3 ⟨rfl, b⟩
         replace z4 := z4.on b
         replace z6 := z6.on b
         replace z7 := z7.on b
         replace hT := hT.on b
         replace h1 := h1.on b
         replace h2 := h2.on b
         replace r := r.on b
         replace zd := zd.on b
         replace BW := Lib.hid (Below.step BW.out b)
         clear b)
      | (go_at_call 29
         (with_reducible refine (bits_fin hf (r.arg (by omega)) (by omega) hT mode HR.out).mono ?_)
         rintro en w4 ⟨rfl, b⟩
         replace z4 := z4.on b
         replace z6 := z6.on b
         replace z7 := z7.on b
         replace hT := hT.on b
         replace h1 := h1.on b
         replace h2 := h2.on b
         replace r := r.on b
         replace zd := zd.on b
         replace BW := Lib.hid (Below.step BW.out b)
         clear b))
  all_goals replace BW := BW.out
  go_wp2_with fail
  refine bodyPost_ret (v := .tuple #[.int .u64 (v : Int), .int .i64 fl, .int .i64 err]) (by simp [results, Tryz.results19, go_sem]) rfl ⟨rfl, BW⟩
/-- THE SUM of two terms. -/
theorem sum_as {B P W M E H : Nat} {low : Int} (hf : Fm B P W M E H low) {A1 A2 : Option Addr} {n1 c1 n2 c2 x1 x2 : Nat} {g1 i1 d1 g2 i2 d2 : Bool} {e1 e2 : Int} {w : World} (h1 : Arg w A1 n1 c1 x1) (h2 : Arg w A2 n2 c2 x2) (s1 : n1 ≤ 30000) (s2 : n2 ≤ 30000) (hT : Tab w) (mode : Int) (ha : i1 = false → i2 = false → ∃ ae, addS ⟨d1, x1, e1⟩ ⟨d2, x2, e2⟩ = (D.add ⟨d1, x1, e1⟩ ⟨d2, x2, e2⟩, ae) ∧ blen (D.add ⟨d1, x1, e1⟩ ⟨d2, x2, e2⟩).x ≤ 4096) {v : Nat} {fl err : Int} (hr : sumT P M E H low mode ⟨g1, i1, ⟨d1, x1, e1⟩⟩ ⟨g2, i2, ⟨d2, x2, e2⟩⟩ = (v, fl, err)) :
    Calls Tryz.prog 19 #[.agg #[.int .i64 (B : Int), .int .i64 (P : Int), .int .i64 (W : Int)], .int .i64 mode, .agg #[.bool g1, .bool i1, .bool d1, .slice A1 n1 c1, .int .i64 e1], .agg #[.bool g2, .bool i2, .bool d2, .slice A2 n2 c2, .int .i64 e2]] w (ToX w v fl err) := by
  unfold sumT bitsS at hr
  cases i1
  · cases i2
    · simp only [Bool.false_and, Bool.and_false, Bool.false_eq_true, if_false] at hr
      obtain ⟨ae, h3, h4⟩ := ha rfl rfl
      obtain ⟨⟨rn, rx, re⟩, hd⟩ : ∃ d, D.add ⟨d1, x1, e1⟩ ⟨d2, x2, e2⟩ = d := ⟨_, rfl⟩
      rw [hd] at h3 h4 hr
      exact sum_fin hf h1 h2 s1 s2 hT mode h3 h4 _ rfl hr
    · simp only [Bool.false_and, Bool.false_eq_true, if_false, if_true, Prod.mk.injEq] at hr
      obtain ⟨hv, rfl, rfl⟩ := hr
      exact sum_y hf h1 h2 s1 s2 hT mode v hv
  · cases i2
    · simp only [Bool.false_and, Bool.and_false, Bool.false_eq_true, if_false, if_true, Prod.mk.injEq] at hr
      obtain ⟨hv, rfl, rfl⟩ := hr
      exact sum_xfalse hf h1 h2 s1 s2 hT mode v hv
    · by_cases hg : (g1 != g2) = true
      · simp only [Bool.true_and, hg, if_true, Prod.mk.injEq] at hr
        obtain ⟨hv, rfl, rfl⟩ := hr
        exact sum_bad hf h1 h2 s1 s2 hT mode (by simpa using hg) v hv
      · have hg' : (g1 != g2) = false := by simpa using hg
        simp only [Bool.true_and, hg', Bool.false_eq_true, if_false, if_true, Prod.mk.injEq] at hr
        obtain ⟨hv, rfl, rfl⟩ := hr
        exact sum_xtrue hf h1 h2 s1 s2 hT mode (by simpa using hg') v hv
end Go.Proofs.YtpachoeignpcbaaGreatDoor
