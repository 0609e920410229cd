
/-
  The reference of layer 5: Fma, by what it tells.
-/
import Derived.Test.YtpachoeignpcbaaGreatDoorIq
namespace Go.Proofs.YtpachoeignpcbaaGreatDoor
open Go.RowKit
set_option linter.unusedVariables false

set_option maxHeartbeats 4000000 in
set_option maxRecDepth 100000 in
theorem rfma_wrong {B P W M E H : Nat} {low : Int} (hf : Fm B P W M E H low) (mode : Int) (ba bb bc : Nat) (hba : ba < 18446744073709551616) (hbb : bb < 18446744073709551616) (hbc : bc < 18446744073709551616) {w : World} (q : Int) (hw : wrongS H mode [ba, bb, bc] = q) (dq : (q != 0) = true) :
    Calls Tryz.prog 14 #[.agg #[.int .i64 (B : Int), .int .i64 (P : Int), .int .i64 (W : Int)], .int .i64 mode, .int .u64 (ba : Int), .int .u64 (bb : Int), .int .u64 (bc : Int)] w (ToX w 0 0 q) := by
  have HL : Hid (∀ x ∈ [ba, bb, bc], x < 18446744073709551616) := Lib.hid (by intro x hx; simp only [List.mem_cons, List.not_mem_nil, or_false] at hx; omega)
  have HW := Lib.hid hw
  clear hw
  go_enter Tryz.func14, Tryz.ntmps14
  go_wp2_with fail
  obtain ⟨V, hV, z4, BW, sW⟩ := fframe1 w 29 (B : Int) (P : Int) (W : Int)
  rw [hV]
  clear hV
  obtain ⟨w1, e_w1⟩ : ∃ w', V.alloc (.cells #[.int .u64 (ba : Int), .int .u64 (bb : Int), .int .u64 (bc : Int)] 22) = w' := ⟨_, rfl⟩
  have b : Below V.heap.size V w1 := e_w1 ▸ below_lit _ _
  have hs_w1 : w1.heap.size = (w.heap.size + 1) + 1 := e_w1 ▸ size_lit V _ sW
  have ob : OB w1 (w.heap.size + 1) [ba, bb, bc] := e_w1 ▸ OB.three V sW ba bb bc
  rw [e_w1]
  clear e_w1
  replace z4 := z4.on b
  replace BW := Below.step BW b
  clear b
  clear hs_w1
  clear sW
  refine (rwrong_as hf [ba, bb, bc] HL.out (n := 3) rfl (by omega) ob mode q HW.out).mono ?_
  rintro en w2 ⟨rfl, b⟩
  replace z4 := z4.on b
  replace ob := ob.on b
  replace BW := Below.step BW b
  clear b
  obtain ⟨z4c0, z4c1, z4c2, z4f0, z4f1, z4f2, z4l⟩ := z4.cells
  go_wp2_with fail
  refine bodyPost_ret (v := .tuple #[.int .u64 (0), .int .i64 0, .int .i64 q]) (by simp [results, Tryz.results14, go_sem]) rfl ⟨rfl, BW⟩
set_option maxHeartbeats 4000000 in
set_option maxRecDepth 100000 in
theorem rfma_none1 {B P W M E H : Nat} {low : Int} (hf : Fm B P W M E H low) (mode : Int) (ba bb bc : Nat) (hba : ba < 18446744073709551616) (hbb : bb < 18446744073709551616) (hbc : bc < 18446744073709551616) {w : World} (q : Int) (hw : wrongS H mode [ba, bb, bc] = q) (dq : (q != 0) = false) {qa qb qc : Int} (ca : clsS M E ba = qa) (cb : clsS M E bb = qb) (cc : clsS M E bc = qc) (e0 : (qa == 3) = true) (e1 : (qb == 0) = true) {r1 : Nat} (hn : fstS M E H [ba, bb, bc] = (r1, true))  :
    Calls Tryz.prog 14 #[.agg #[.int .i64 (B : Int), .int .i64 (P : Int), .int .i64 (W : Int)], .int .i64 mode, .int .u64 (ba : Int), .int .u64 (bb : Int), .int .u64 (bc : Int)] w (ToX w r1 16 0) := by
  have HL : Hid (∀ x ∈ [ba, bb, bc], x < 18446744073709551616) := Lib.hid (by intro x hx; simp only [List.mem_cons, List.not_mem_nil, or_false] at hx; omega)
  have HW := Lib.hid hw
  clear hw
  have HA := Lib.hid ca
  have HB := Lib.hid cb
  have HC := Lib.hid cc
  clear ca cb cc
  have HF := Lib.hid hn
  clear hn
  go_enter Tryz.func14, Tryz.ntmps14
  go_wp2_with fail
  obtain ⟨V, hV, z4, BW, sW⟩ := fframe1 w 29 (B : Int) (P : Int) (W : Int)
  rw [hV]
  clear hV
  obtain ⟨w1, e_w1⟩ : ∃ w', V.alloc (.cells #[.int .u64 (ba : Int), .int .u64 (bb : Int), .int .u64 (bc : Int)] 22) = w' := ⟨_, rfl⟩
  have b : Below V.heap.size V w1 := e_w1 ▸ below_lit _ _
  have hs_w1 : w1.heap.size = (w.heap.size + 1) + 1 := e_w1 ▸ size_lit V _ sW
  have ob : OB w1 (w.heap.size + 1) [ba, bb, bc] := e_w1 ▸ OB.three V sW ba bb bc
  rw [e_w1]
  clear e_w1
  replace z4 := z4.on b
  replace BW := Below.step BW b
  clear b
  clear hs_w1
  clear sW
  refine (rwrong_as hf [ba, bb, bc] HL.out (n := 3) rfl (by omega) ob mode q HW.out).mono ?_
  rintro en w2 ⟨rfl, b⟩
  replace z4 := z4.on b
  replace ob := ob.on b
  replace BW := Below.step BW b
  clear b
  obtain ⟨z4c0, z4c1, z4c2, z4f0, z4f1, z4f2, z4l⟩ := z4.cells
  go_wp2_with fail
  refine (rclass_as hf ba qa hba HA.out _).mono ?_
  rintro en w3 ⟨rfl, b⟩
  clear z4c0 z4c1 z4c2 z4f0 z4f1 z4f2 z4l
  replace z4 := z4.on b
  replace ob := ob.on b
  replace BW := Below.step BW b
  clear b
  obtain ⟨z4c0, z4c1, z4c2, z4f0, z4f1, z4f2, z4l⟩ := z4.cells
  go_wp2_with fail
  refine (rclass_as hf bb qb hbb HB.out _).mono ?_
  rintro en w4 ⟨rfl, b⟩
  clear z4c0 z4c1 z4c2 z4f0 z4f1 z4f2 z4l
  replace z4 := z4.on b
  replace ob := ob.on b
  replace BW := Below.step BW b
  clear b
  obtain ⟨z4c0, z4c1, z4c2, z4f0, z4f1, z4f2, z4l⟩ := z4.cells
  go_wp2_with fail
  refine (rclass_as hf bc qc hbc HC.out _).mono ?_
  rintro en w5 ⟨rfl, b⟩
  clear z4c0 z4c1 z4c2 z4f0 z4f1 z4f2 z4l
  replace z4 := z4.on b
  replace ob := ob.on b
  replace BW := Below.step BW b
  clear b
  obtain ⟨z4c0, z4c1, z4c2, z4f0, z4f1, z4f2, z4l⟩ := z4.cells
  go_wp2_with fail
  refine (rfirst_as hf [ba, bb, bc] HL.out (n := 3) rfl (by omega) ob HF.out).mono ?_
  rintro en w6 ⟨rfl, b⟩
  clear z4c0 z4c1 z4c2 z4f0 z4f1 z4f2 z4l
  replace z4 := z4.on b
  replace ob := ob.on b
  replace BW := Below.step BW b
  clear b
  obtain ⟨z4c0, z4c1, z4c2, z4f0, z4f1, z4f2, z4l⟩ := z4.cells
  go_wp2_with fail
  refine bodyPost_ret (v := .tuple #[.int .u64 (r1 : Int), .int .i64 16, .int .i64 0]) (by simp [results, Tryz.results14, go_sem]) rfl ⟨rfl, BW⟩
set_option maxHeartbeats 4000000 in
set_option maxRecDepth 100000 in
theorem rfma_none2t {B P W M E H : Nat} {low : Int} (hf : Fm B P W M E H low) (mode : Int) (ba bb bc : Nat) (hba : ba < 18446744073709551616) (hbb : bb < 18446744073709551616) (hbc : bc < 18446744073709551616) {w : World} (q : Int) (hw : wrongS H mode [ba, bb, bc] = q) (dq : (q != 0) = false) {qa qb qc : Int} (ca : clsS M E ba = qa) (cb : clsS M E bb = qb) (cc : clsS M E bc = qc) (e0 : (qa == 3) = true) (e1 : (qb == 0) = false) (e2 : (qa == 0) = false) {r1 : Nat} (hn : fstS M E H [ba, bb, bc] = (r1, true)) (hs : sgsS M E [ba, bb, bc] = true) :
    Calls Tryz.prog 14 #[.agg #[.int .i64 (B : Int), .int .i64 (P : Int), .int .i64 (W : Int)], .int .i64 mode, .int .u64 (ba : Int), .int .u64 (bb : Int), .int .u64 (bc : Int)] w (ToX w r1 16 0) := by
  have HL : Hid (∀ x ∈ [ba, bb, bc], x < 18446744073709551616) := Lib.hid (by intro x hx; simp only [List.mem_cons, List.not_mem_nil, or_false] at hx; omega)
  have HW := Lib.hid hw
  clear hw
  have HA := Lib.hid ca
  have HB := Lib.hid cb
  have HC := Lib.hid cc
  clear ca cb cc
  have HF := Lib.hid hn
  clear hn
  have HS := Lib.hid hs
  clear hs
  go_enter Tryz.func14, Tryz.ntmps14
  go_wp2_with fail
  obtain ⟨V, hV, z4, BW, sW⟩ := fframe1 w 29 (B : Int) (P : Int) (W : Int)
  rw [hV]
  clear hV
  obtain ⟨w1, e_w1⟩ : ∃ w', V.alloc (.cells #[.int .u64 (ba : Int), .int .u64 (bb : Int), .int .u64 (bc : Int)] 22) = w' := ⟨_, rfl⟩
  have b : Below V.heap.size V w1 := e_w1 ▸ below_lit _ _
  have hs_w1 : w1.heap.size = (w.heap.size + 1) + 1 := e_w1 ▸ size_lit V _ sW
  have ob : OB w1 (w.heap.size + 1) [ba, bb, bc] := e_w1 ▸ OB.three V sW ba bb bc
  rw [e_w1]
  clear e_w1
  replace z4 := z4.on b
  replace BW := Below.step BW b
  clear b
  clear hs_w1
  clear sW
  refine (rwrong_as hf [ba, bb, bc] HL.out (n := 3) rfl (by omega) ob mode q HW.out).mono ?_
  rintro en w2 ⟨rfl, b⟩
  replace z4 := z4.on b
  replace ob := ob.on b
  replace BW := Below.step BW b
  clear b
  obtain ⟨z4c0, z4c1, z4c2, z4f0, z4f1, z4f2, z4l⟩ := z4.cells
  go_wp2_with fail
  refine (rclass_as hf ba qa hba HA.out _).mono ?_
  rintro en w3 ⟨rfl, b⟩
  clear z4c0 z4c1 z4c2 z4f0 z4f1 z4f2 z4l
  replace z4 := z4.on b
  replace ob := ob.on b
  replace BW := Below.step BW b
  clear b
  obtain ⟨z4c0, z4c1, z4c2, z4f0, z4f1, z4f2, z4l⟩ := z4.cells
  go_wp2_with fail
  refine (rclass_as hf bb qb hbb HB.out _).mono ?_
  rintro en w4 ⟨rfl, b⟩
  clear z4c0 z4c1 z4c2 z4f0 z4f1 z4f2 z4l
  replace z4 := z4.on b
  replace ob := ob.on b
  replace BW := Below.step BW b
  clear b
  obtain ⟨z4c0, z4c1, z4c2, z4f0, z4f1, z4f2, z4l⟩ := z4.cells
  go_wp2_with fail
  refine (rclass_as hf bc qc hbc HC.out _).mono ?_
  rintro en w5 ⟨rfl, b⟩
  clear z4c0 z4c1 z4c2 z4f0 z4f1 z4f2 z4l
  replace z4 := z4.on b
  replace ob := ob.on b
  replace BW := Below.step BW b
  clear b
  obtain ⟨z4c0, z4c1, z4c2, z4f0, z4f1, z4f2, z4l⟩ := z4.cells
  go_wp2_with fail
  refine (rfirst_as hf [ba, bb, bc] HL.out (n := 3) rfl (by omega) ob HF.out).mono ?_
  rintro en w6 ⟨rfl, b⟩
  clear z4c0 z4c1 z4c2 z4f0 z4f1 z4f2 z4l
  replace z4 := z4.on b
  replace ob := ob.on b
  replace BW := Below.step BW b
  clear b
  obtain ⟨z4c0, z4c1, z4c2, z4f0, z4f1, z4f2, z4l⟩ := z4.cells
  go_wp2_with fail
  refine (rsignals_as hf [ba, bb, bc] HL.out (n := 3) rfl (by omega) ob true HS.out).mono ?_
  rintro en w7 ⟨rfl, b⟩
  clear z4c0 z4c1 z4c2 z4f0 z4f1 z4f2 z4l
  replace z4 := z4.on b
  replace ob := ob.on b
  replace BW := Below.step BW b
  clear b
  go_wp2_with fail
  refine bodyPost_ret (v := .tuple #[.int .u64 (r1 : Int), .int .i64 16, .int .i64 0]) (by simp [results, Tryz.results14, go_sem]) rfl ⟨rfl, BW⟩
set_option maxHeartbeats 4000000 in
set_option maxRecDepth 100000 in
theorem rfma_none2f {B P W M E H : Nat} {low : Int} (hf : Fm B P W M E H low) (mode : Int) (ba bb bc : Nat) (hba : ba < 18446744073709551616) (hbb : bb < 18446744073709551616) (hbc : bc < 18446744073709551616) {w : World} (q : Int) (hw : wrongS H mode [ba, bb, bc] = q) (dq : (q != 0) = false) {qa qb qc : Int} (ca : clsS M E ba = qa) (cb : clsS M E bb = qb) (cc : clsS M E bc = qc) (e0 : (qa == 3) = true) (e1 : (qb == 0) = false) (e2 : (qa == 0) = false) {r1 : Nat} (hn : fstS M E H [ba, bb, bc] = (r1, true)) (hs : sgsS M E [ba, bb, bc] = false) :
    Calls Tryz.prog 14 #[.agg #[.int .i64 (B : Int), .int .i64 (P : Int), .int .i64 (W : Int)], .int .i64 mode, .int .u64 (ba : Int), .int .u64 (bb : Int), .int .u64 (bc : Int)] w (ToX w r1 0 0) := by
  have HL : Hid (∀ x ∈ [ba, bb, bc], x < 18446744073709551616) := Lib.hid (by intro x hx; simp only [List.mem_cons, List.not_mem_nil, or_false] at hx; omega)
  have HW := Lib.hid hw
  clear hw
  have HA := Lib.hid ca
  have HB := Lib.hid cb
  have HC := Lib.hid cc
  clear ca cb cc
  have HF := Lib.hid hn
  clear hn
  have HS := Lib.hid hs
  clear hs
  go_enter Tryz.func14, Tryz.ntmps14
  go_wp2_with fail
  obtain ⟨V, hV, z4, BW, sW⟩ := fframe1 w 29 (B : Int) (P : Int) (W : Int)
  rw [hV]
  clear hV
  obtain ⟨w1, e_w1⟩ : ∃ w', V.alloc (.cells #[.int .u64 (ba : Int), .int .u64 (bb : Int), .int .u64 (bc : Int)] 22) = w' := ⟨_, rfl⟩
  have b : Below V.heap.size V w1 := e_w1 ▸ below_lit _ _
  have hs_w1 : w1.heap.size = (w.heap.size + 1) + 1 := e_w1 ▸ size_lit V _ sW
  have ob : OB w1 (w.heap.size + 1) [ba, bb, bc] := e_w1 ▸ OB.three V sW ba bb bc
  rw [e_w1]
  clear e_w1
  replace z4 := z4.on b
  replace BW := Below.step BW b
  clear b
  clear hs_w1
  clear sW
  refine (rwrong_as hf [ba, bb, bc] HL.out (n := 3) rfl (by omega) ob mode q HW.out).mono ?_
  rintro en w2 ⟨rfl, b⟩
  replace z4 := z4.on b
  replace ob := ob.on b
  replace BW := Below.step BW b
  clear b
  obtain ⟨z4c0, z4c1, z4c2, z4f0, z4f1, z4f2, z4l⟩ := z4.cells
  go_wp2_with fail
  refine (rclass_as hf ba qa hba HA.out _).mono ?_
  rintro en w3 ⟨rfl, b⟩
  clear z4c0 z4c1 z4c2 z4f0 z4f1 z4f2 z4l
  replace z4 := z4.on b
  replace ob := ob.on b
  replace BW := Below.step BW b
  clear b
  obtain ⟨z4c0, z4c1, z4c2, z4f0, z4f1, z4f2, z4l⟩ := z4.cells
  go_wp2_with fail
  refine (rclass_as hf bb qb hbb HB.out _).mono ?_
  rintro en w4 ⟨rfl, b⟩
  clear z4c0 z4c1 z4c2 z4f0 z4f1 z4f2 z4l
  replace z4 := z4.on b
  replace ob := ob.on b
  replace BW := Below.step BW b
  clear b
  obtain ⟨z4c0, z4c1, z4c2, z4f0, z4f1, z4f2, z4l⟩ := z4.cells
  go_wp2_with fail
  refine (rclass_as hf bc qc hbc HC.out _).mono ?_
  rintro en w5 ⟨rfl, b⟩
  clear z4c0 z4c1 z4c2 z4f0 z4f1 z4f2 z4l
  replace z4 := z4.on b
  replace ob := ob.on b
  replace BW := Below.step BW b
  clear b
  obtain ⟨z4c0, z4c1, z4c2, z4f0, z4f1, z4f2, z4l⟩ := z4.cells
  go_wp2_with fail
  refine (rfirst_as hf [ba, bb, bc] HL.out (n := 3) rfl (by omega) ob HF.out).mono ?_
  rintro en w6 ⟨rfl, b⟩
  clear z4c0 z4c1 z4c2 z4f0 z4f1 z4f2 z4l
  replace z4 := z4.on b
  replace ob := ob.on b
  replace BW := Below.step BW b
  clear b
  obtain ⟨z4c0, z4c1, z4c2, z4f0, z4f1, z4f2, z4l⟩ := z4.cells
  go_wp2_with fail
  refine (rsignals_as hf [ba, bb, bc] HL.out (n := 3) rfl (by omega) ob false HS.out).mono ?_
  rintro en w7 ⟨rfl, b⟩
  clear z4c0 z4c1 z4c2 z4f0 z4f1 z4f2 z4l
  replace z4 := z4.on b
  replace ob := ob.on b
  replace BW := Below.step BW b
  clear b
  go_wp2_with fail
  refine bodyPost_ret (v := .tuple #[.int .u64 (r1 : Int), .int .i64 0, .int .i64 0]) (by simp [results, Tryz.results14, go_sem]) rfl ⟨rfl, BW⟩
set_option maxHeartbeats 4000000 in
set_option maxRecDepth 100000 in
theorem rfma_none3 {B P W M E H : Nat} {low : Int} (hf : Fm B P W M E H low) (mode : Int) (ba bb bc : Nat) (hba : ba < 18446744073709551616) (hbb : bb < 18446744073709551616) (hbc : bc < 18446744073709551616) {w : World} (q : Int) (hw : wrongS H mode [ba, bb, bc] = q) (dq : (q != 0) = false) {qa qb qc : Int} (ca : clsS M E ba = qa) (cb : clsS M E bb = qb) (cc : clsS M E bc = qc) (e0 : (qa == 3) = false) (e1 : (qa == 0) = true) (e2 : (qb == 3) = true) {r1 : Nat} (hn : fstS M E H [ba, bb, bc] = (r1, true))  :
    Calls Tryz.prog 14 #[.agg #[.int .i64 (B : Int), .int .i64 (P : Int), .int .i64 (W : Int)], .int .i64 mode, .int .u64 (ba : Int), .int .u64 (bb : Int), .int .u64 (bc : Int)] w (ToX w r1 16 0) := by
  have HL : Hid (∀ x ∈ [ba, bb, bc], x < 18446744073709551616) := Lib.hid (by intro x hx; simp only [List.mem_cons, List.not_mem_nil, or_false] at hx; omega)
  have HW := Lib.hid hw
  clear hw
  have HA := Lib.hid ca
  have HB := Lib.hid cb
  have HC := Lib.hid cc
  clear ca cb cc
  have HF := Lib.hid hn
  clear hn
  go_enter Tryz.func14, Tryz.ntmps14
  go_wp2_with fail
  obtain ⟨V, hV, z4, BW, sW⟩ := fframe1 w 29 (B : Int) (P : Int) (W : Int)
  rw [hV]
  clear hV
  obtain ⟨w1, e_w1⟩ : ∃ w', V.alloc (.cells #[.int .u64 (ba : Int), .int .u64 (bb : Int), .int .u64 (bc : Int)] 22) = w' := ⟨_, rfl⟩
  have b : Below V.heap.size V w1 := e_w1 ▸ below_lit _ _
  have hs_w1 : w1.heap.size = (w.heap.size + 1) + 1 := e_w1 ▸ size_lit V _ sW
  have ob : OB w1 (w.heap.size + 1) [ba, bb, bc] := e_w1 ▸ OB.three V sW ba bb bc
  rw [e_w1]
  clear e_w1
  replace z4 := z4.on b
  replace BW := Below.step BW b
  clear b
  clear hs_w1
  clear sW
  refine (rwrong_as hf [ba, bb, bc] HL.out (n := 3) rfl (by omega) ob mode q HW.out).mono ?_
  rintro en w2 ⟨rfl, b⟩
  replace z4 := z4.on b
  replace ob := ob.on b
  replace BW := Below.step BW b
  clear b
  obtain ⟨z4c0, z4c1, z4c2, z4f0, z4f1, z4f2, z4l⟩ := z4.cells
  go_wp2_with fail
  refine (rclass_as hf ba qa hba HA.out _).mono ?_
  rintro en w3 ⟨rfl, b⟩
  clear z4c0 z4c1 z4c2 z4f0 z4f1 z4f2 z4l
  replace z4 := z4.on b
  replace ob := ob.on b
  replace BW := Below.step BW b
  clear b
  obtain ⟨z4c0, z4c1, z4c2, z4f0, z4f1, z4f2, z4l⟩ := z4.cells
  go_wp2_with fail
  refine (rclass_as hf bb qb hbb HB.out _).mono ?_
  rintro en w4 ⟨rfl, b⟩
  clear z4c0 z4c1 z4c2 z4f0 z4f1 z4f2 z4l
  replace z4 := z4.on b
  replace ob := ob.on b
  replace BW := Below.step BW b
  clear b
  obtain ⟨z4c0, z4c1, z4c2, z4f0, z4f1, z4f2, z4l⟩ := z4.cells
  go_wp2_with fail
  refine (rclass_as hf bc qc hbc HC.out _).mono ?_
  rintro en w5 ⟨rfl, b⟩
  clear z4c0 z4c1 z4c2 z4f0 z4f1 z4f2 z4l
  replace z4 := z4.on b
  replace ob := ob.on b
  replace BW := Below.step BW b
  clear b
  obtain ⟨z4c0, z4c1, z4c2, z4f0, z4f1, z4f2, z4l⟩ := z4.cells
  go_wp2_with fail
  refine (rfirst_as hf [ba, bb, bc] HL.out (n := 3) rfl (by omega) ob HF.out).mono ?_
  rintro en w6 ⟨rfl, b⟩
  clear z4c0 z4c1 z4c2 z4f0 z4f1 z4f2 z4l
  replace z4 := z4.on b
  replace ob := ob.on b
  replace BW := Below.step BW b
  clear b
  obtain ⟨z4c0, z4c1, z4c2, z4f0, z4f1, z4f2, z4l⟩ := z4.cells
  go_wp2_with fail
  refine bodyPost_ret (v := .tuple #[.int .u64 (r1 : Int), .int .i64 16, .int .i64 0]) (by simp [results, Tryz.results14, go_sem]) rfl ⟨rfl, BW⟩
set_option maxHeartbeats 4000000 in
set_option maxRecDepth 100000 in
theorem rfma_none4t {B P W M E H : Nat} {low : Int} (hf : Fm B P W M E H low) (mode : Int) (ba bb bc : Nat) (hba : ba < 18446744073709551616) (hbb : bb < 18446744073709551616) (hbc : bc < 18446744073709551616) {w : World} (q : Int) (hw : wrongS H mode [ba, bb, bc] = q) (dq : (q != 0) = false) {qa qb qc : Int} (ca : clsS M E ba = qa) (cb : clsS M E bb = qb) (cc : clsS M E bc = qc) (e0 : (qa == 3) = false) (e1 : (qa == 0) = true) (e2 : (qb == 3) = false) {r1 : Nat} (hn : fstS M E H [ba, bb, bc] = (r1, true)) (hs : sgsS M E [ba, bb, bc] = true) :
    Calls Tryz.prog 14 #[.agg #[.int .i64 (B : Int), .int .i64 (P : Int), .int .i64 (W : Int)], .int .i64 mode, .int .u64 (ba : Int), .int .u64 (bb : Int), .int .u64 (bc : Int)] w (ToX w r1 16 0) := by
  have HL : Hid (∀ x ∈ [ba, bb, bc], x < 18446744073709551616) := Lib.hid (by intro x hx; simp only [List.mem_cons, List.not_mem_nil, or_false] at hx; omega)
  have HW := Lib.hid hw
  clear hw
  have HA := Lib.hid ca
  have HB := Lib.hid cb
  have HC := Lib.hid cc
  clear ca cb cc
  have HF := Lib.hid hn
  clear hn
  have HS := Lib.hid hs
  clear hs
  go_enter Tryz.func14, Tryz.ntmps14
  go_wp2_with fail
  obtain ⟨V, hV, z4, BW, sW⟩ := fframe1 w 29 (B : Int) (P : Int) (W : Int)
  rw [hV]
  clear hV
  obtain ⟨w1, e_w1⟩ : ∃ w', V.alloc (.cells #[.int .u64 (ba : Int), .int .u64 (bb : Int), .int .u64 (bc : Int)] 22) = w' := ⟨_, rfl⟩
  have b : Below V.heap.size V w1 := e_w1 ▸ below_lit _ _
  have hs_w1 : w1.heap.size = (w.heap.size + 1) + 1 := e_w1 ▸ size_lit V _ sW
  have ob : OB w1 (w.heap.size + 1) [ba, bb, bc] := e_w1 ▸ OB.three V sW ba bb bc
  rw [e_w1]
  clear e_w1
  replace z4 := z4.on b
  replace BW := Below.step BW b
  clear b
  clear hs_w1
  clear sW
  refine (rwrong_as hf [ba, bb, bc] HL.out (n := 3) rfl (by omega) ob mode q HW.out).mono ?_
  rintro en w2 ⟨rfl, b⟩
  replace z4 := z4.on b
  replace ob := ob.on b
  replace BW := Below.step BW b
  clear b
  obtain ⟨z4c0, z4c1, z4c2, z4f0, z4f1, z4f2, z4l⟩ := z4.cells
  go_wp2_with fail
  refine (rclass_as hf ba qa hba HA.out _).mono ?_
  rintro en w3 ⟨rfl, b⟩
  clear z4c0 z4c1 z4c2 z4f0 z4f1 z4f2 z4l
  replace z4 := z4.on b
  replace ob := ob.on b
  replace BW := Below.step BW b
  clear b
  obtain ⟨z4c0, z4c1, z4c2, z4f0, z4f1, z4f2, z4l⟩ := z4.cells
  go_wp2_with fail
  refine (rclass_as hf bb qb hbb HB.out _).mono ?_
  rintro en w4 ⟨rfl, b⟩
  clear z4c0 z4c1 z4c2 z4f0 z4f1 z4f2 z4l
  replace z4 := z4.on b
  replace ob := ob.on b
  replace BW := Below.step BW b
  clear b
  obtain ⟨z4c0, z4c1, z4c2, z4f0, z4f1, z4f2, z4l⟩ := z4.cells
  go_wp2_with fail
  refine (rclass_as hf bc qc hbc HC.out _).mono ?_
  rintro en w5 ⟨rfl, b⟩
  clear z4c0 z4c1 z4c2 z4f0 z4f1 z4f2 z4l
  replace z4 := z4.on b
  replace ob := ob.on b
  replace BW := Below.step BW b
  clear b
  obtain ⟨z4c0, z4c1, z4c2, z4f0, z4f1, z4f2, z4l⟩ := z4.cells
  go_wp2_with fail
  refine (rfirst_as hf [ba, bb, bc] HL.out (n := 3) rfl (by omega) ob HF.out).mono ?_
  rintro en w6 ⟨rfl, b⟩
  clear z4c0 z4c1 z4c2 z4f0 z4f1 z4f2 z4l
  replace z4 := z4.on b
  replace ob := ob.on b
  replace BW := Below.step BW b
  clear b
  obtain ⟨z4c0, z4c1, z4c2, z4f0, z4f1, z4f2, z4l⟩ := z4.cells
  go_wp2_with fail
  refine (rsignals_as hf [ba, bb, bc] HL.out (n := 3) rfl (by omega) ob true HS.out).mono ?_
  rintro en w7 ⟨rfl, b⟩
  clear z4c0 z4c1 z4c2 z4f0 z4f1 z4f2 z4l
  replace z4 := z4.on b
  replace ob := ob.on b
  replace BW := Below.step BW b
  clear b
  go_wp2_with fail
  refine bodyPost_ret (v := .tuple #[.int .u64 (r1 : Int), .int .i64 16, .int .i64 0]) (by simp [results, Tryz.results14, go_sem]) rfl ⟨rfl, BW⟩
set_option maxHeartbeats 4000000 in
set_option maxRecDepth 100000 in
theorem rfma_none4f {B P W M E H : Nat} {low : Int} (hf : Fm B P W M E H low) (mode : Int) (ba bb bc : Nat) (hba : ba < 18446744073709551616) (hbb : bb < 18446744073709551616) (hbc : bc < 18446744073709551616) {w : World} (q : Int) (hw : wrongS H mode [ba, bb, bc] = q) (dq : (q != 0) = false) {qa qb qc : Int} (ca : clsS M E ba = qa) (cb : clsS M E bb = qb) (cc : clsS M E bc = qc) (e0 : (qa == 3) = false) (e1 : (qa == 0) = true) (e2 : (qb == 3) = false) {r1 : Nat} (hn : fstS M E H [ba, bb, bc] = (r1, true)) (hs : sgsS M E [ba, bb, bc] = false) :
    Calls Tryz.prog 14 #[.agg #[.int .i64 (B : Int), .int .i64 (P : Int), .int .i64 (W : Int)], .int .i64 mode, .int .u64 (ba : Int), .int .u64 (bb : Int), .int .u64 (bc : Int)] w (ToX w r1 0 0) := by
  have HL : Hid (∀ x ∈ [ba, bb, bc], x < 18446744073709551616) := Lib.hid (by intro x hx; simp only [List.mem_cons, List.not_mem_nil, or_false] at hx; omega)
  have HW := Lib.hid hw
  clear hw
  have HA := Lib.hid ca
  have HB := Lib.hid cb
  have HC := Lib.hid cc
  clear ca cb cc
  have HF := Lib.hid hn
  clear hn
  have HS := Lib.hid hs
  clear hs
  go_enter Tryz.func14, Tryz.ntmps14
  go_wp2_with fail
  obtain ⟨V, hV, z4, BW, sW⟩ := fframe1 w 29 (B : Int) (P : Int) (W : Int)
  rw [hV]
  clear hV
  obtain ⟨w1, e_w1⟩ : ∃ w', V.alloc (.cells #[.int .u64 (ba : Int), .int .u64 (bb : Int), .int .u64 (bc : Int)] 22) = w' := ⟨_, rfl⟩
  have b : Below V.heap.size V w1 := e_w1 ▸ below_lit _ _
  have hs_w1 : w1.heap.size = (w.heap.size + 1) + 1 := e_w1 ▸ size_lit V _ sW
  have ob : OB w1 (w.heap.size + 1) [ba, bb, bc] := e_w1 ▸ OB.three V sW ba bb bc
  rw [e_w1]
  clear e_w1
  replace z4 := z4.on b
  replace BW := Below.step BW b
  clear b
  clear hs_w1
  clear sW
  refine (rwrong_as hf [ba, bb, bc] HL.out (n := 3) rfl (by omega) ob mode q HW.out).mono ?_
  rintro en w2 ⟨rfl, b⟩
  replace z4 := z4.on b
  replace ob := ob.on b
  replace BW := Below.step BW b
  clear b
  obtain ⟨z4c0, z4c1, z4c2, z4f0, z4f1, z4f2, z4l⟩ := z4.cells
  go_wp2_with fail
  refine (rclass_as hf ba qa hba HA.out _).mono ?_
  rintro en w3 ⟨rfl, b⟩
  clear z4c0 z4c1 z4c2 z4f0 z4f1 z4f2 z4l
  replace z4 := z4.on b
  replace ob := ob.on b
  replace BW := Below.step BW b
  clear b
  obtain ⟨z4c0, z4c1, z4c2, z4f0, z4f1, z4f2, z4l⟩ := z4.cells
  go_wp2_with fail
  refine (rclass_as hf bb qb hbb HB.out _).mono ?_
  rintro en w4 ⟨rfl, b⟩
  clear z4c0 z4c1 z4c2 z4f0 z4f1 z4f2 z4l
  replace z4 := z4.on b
  replace ob := ob.on b
  replace BW := Below.step BW b
  clear b
  obtain ⟨z4c0, z4c1, z4c2, z4f0, z4f1, z4f2, z4l⟩ := z4.cells
  go_wp2_with fail
  refine (rclass_as hf bc qc hbc HC.out _).mono ?_
  rintro en w5 ⟨rfl, b⟩
  clear z4c0 z4c1 z4c2 z4f0 z4f1 z4f2 z4l
  replace z4 := z4.on b
  replace ob := ob.on b
  replace BW := Below.step BW b
  clear b
  obtain ⟨z4c0, z4c1, z4c2, z4f0, z4f1, z4f2, z4l⟩ := z4.cells
  go_wp2_with fail
  refine (rfirst_as hf [ba, bb, bc] HL.out (n := 3) rfl (by omega) ob HF.out).mono ?_
  rintro en w6 ⟨rfl, b⟩
  clear z4c0 z4c1 z4c2 z4f0 z4f1 z4f2 z4l
  replace z4 := z4.on b
  replace ob := ob.on b
  replace BW := Below.step BW b
  clear b
  obtain ⟨z4c0, z4c1, z4c2, z4f0, z4f1, z4f2, z4l⟩ := z4.cells
  go_wp2_with fail
  refine (rsignals_as hf [ba, bb, bc] HL.out (n := 3) rfl (by omega) ob false HS.out).mono ?_
  rintro en w7 ⟨rfl, b⟩
  clear z4c0 z4c1 z4c2 z4f0 z4f1 z4f2 z4l
  replace z4 := z4.on b
  replace ob := ob.on b
  replace BW := Below.step BW b
  clear b
  go_wp2_with fail
  refine bodyPost_ret (v := .tuple #[.int .u64 (r1 : Int), .int .i64 0, .int .i64 0]) (by simp [results, Tryz.results14, go_sem]) rfl ⟨rfl, BW⟩
set_option maxHeartbeats 4000000 in
set_option maxRecDepth 100000 in
theorem rfma_none5t {B P W M E H : Nat} {low : Int} (hf : Fm B P W M E H low) (mode : Int) (ba bb bc : Nat) (hba : ba < 18446744073709551616) (hbb : bb < 18446744073709551616) (hbc : bc < 18446744073709551616) {w : World} (q : Int) (hw : wrongS H mode [ba, bb, bc] = q) (dq : (q != 0) = false) {qa qb qc : Int} (ca : clsS M E ba = qa) (cb : clsS M E bb = qb) (cc : clsS M E bc = qc) (e0 : (qa == 3) = false) (e1 : (qa == 0) = false) (e2 : (qb == 3) = true) {r1 : Nat} (hn : fstS M E H [ba, bb, bc] = (r1, true)) (hs : sgsS M E [ba, bb, bc] = true) :
    Calls Tryz.prog 14 #[.agg #[.int .i64 (B : Int), .int .i64 (P : Int), .int .i64 (W : Int)], .int .i64 mode, .int .u64 (ba : Int), .int .u64 (bb : Int), .int .u64 (bc : Int)] w (ToX w r1 16 0) := by
  have HL : Hid (∀ x ∈ [ba, bb, bc], x < 18446744073709551616) := Lib.hid (by intro x hx; simp only [List.mem_cons, List.not_mem_nil, or_false] at hx; omega)
  have HW := Lib.hid hw
  clear hw
  have HA := Lib.hid ca
  have HB := Lib.hid cb
  have HC := Lib.hid cc
  clear ca cb cc
  have HF := Lib.hid hn
  clear hn
  have HS := Lib.hid hs
  clear hs
  go_enter Tryz.func14, Tryz.ntmps14
  go_wp2_with fail
  obtain ⟨V, hV, z4, BW, sW⟩ := fframe1 w 29 (B : Int) (P : Int) (W : Int)
  rw [hV]
  clear hV
  obtain ⟨w1, e_w1⟩ : ∃ w', V.alloc (.cells #[.int .u64 (ba : Int), .int .u64 (bb : Int), .int .u64 (bc : Int)] 22) = w' := ⟨_, rfl⟩
  have b : Below V.heap.size V w1 := e_w1 ▸ below_lit _ _
  have hs_w1 : w1.heap.size = (w.heap.size + 1) + 1 := e_w1 ▸ size_lit V _ sW
  have ob : OB w1 (w.heap.size + 1) [ba, bb, bc] := e_w1 ▸ OB.three V sW ba bb bc
  rw [e_w1]
  clear e_w1
  replace z4 := z4.on b
  replace BW := Below.step BW b
  clear b
  clear hs_w1
  clear sW
  refine (rwrong_as hf [ba, bb, bc] HL.out (n := 3) rfl (by omega) ob mode q HW.out).mono ?_
  rintro en w2 ⟨rfl, b⟩
  replace z4 := z4.on b
  replace ob := ob.on b
  replace BW := Below.step BW b
  clear b
  obtain ⟨z4c0, z4c1, z4c2, z4f0, z4f1, z4f2, z4l⟩ := z4.cells
  go_wp2_with fail
  refine (rclass_as hf ba qa hba HA.out _).mono ?_
  rintro en w3 ⟨rfl, b⟩
  clear z4c0 z4c1 z4c2 z4f0 z4f1 z4f2 z4l
  replace z4 := z4.on b
  replace ob := ob.on b
  replace BW := Below.step BW b
  clear b
  obtain ⟨z4c0, z4c1, z4c2, z4f0, z4f1, z4f2, z4l⟩ := z4.cells
  go_wp2_with fail
  refine (rclass_as hf bb qb hbb HB.out _).mono ?_
  rintro en w4 ⟨rfl, b⟩
  clear z4c0 z4c1 z4c2 z4f0 z4f1 z4f2 z4l
  replace z4 := z4.on b
  replace ob := ob.on b
  replace BW := Below.step BW b
  clear b
  obtain ⟨z4c0, z4c1, z4c2, z4f0, z4f1, z4f2, z4l⟩ := z4.cells
  go_wp2_with fail
  refine (rclass_as hf bc qc hbc HC.out _).mono ?_
  rintro en w5 ⟨rfl, b⟩
  clear z4c0 z4c1 z4c2 z4f0 z4f1 z4f2 z4l
  replace z4 := z4.on b
  replace ob := ob.on b
  replace BW := Below.step BW b
  clear b
  obtain ⟨z4c0, z4c1, z4c2, z4f0, z4f1, z4f2, z4l⟩ := z4.cells
  go_wp2_with fail
  refine (rfirst_as hf [ba, bb, bc] HL.out (n := 3) rfl (by omega) ob HF.out).mono ?_
  rintro en w6 ⟨rfl, b⟩
  clear z4c0 z4c1 z4c2 z4f0 z4f1 z4f2 z4l
  replace z4 := z4.on b
  replace ob := ob.on b
  replace BW := Below.step BW b
  clear b
  obtain ⟨z4c0, z4c1, z4c2, z4f0, z4f1, z4f2, z4l⟩ := z4.cells
  go_wp2_with fail
  refine (rsignals_as hf [ba, bb, bc] HL.out (n := 3) rfl (by omega) ob true HS.out).mono ?_
  rintro en w7 ⟨rfl, b⟩
  clear z4c0 z4c1 z4c2 z4f0 z4f1 z4f2 z4l
  replace z4 := z4.on b
  replace ob := ob.on b
  replace BW := Below.step BW b
  clear b
  go_wp2_with fail
  refine bodyPost_ret (v := .tuple #[.int .u64 (r1 : Int), .int .i64 16, .int .i64 0]) (by simp [results, Tryz.results14, go_sem]) rfl ⟨rfl, BW⟩
set_option maxHeartbeats 4000000 in
set_option maxRecDepth 100000 in
theorem rfma_none5f {B P W M E H : Nat} {low : Int} (hf : Fm B P W M E H low) (mode : Int) (ba bb bc : Nat) (hba : ba < 18446744073709551616) (hbb : bb < 18446744073709551616) (hbc : bc < 18446744073709551616) {w : World} (q : Int) (hw : wrongS H mode [ba, bb, bc] = q) (dq : (q != 0) = false) {qa qb qc : Int} (ca : clsS M E ba = qa) (cb : clsS M E bb = qb) (cc : clsS M E bc = qc) (e0 : (qa == 3) = false) (e1 : (qa == 0) = false) (e2 : (qb == 3) = true) {r1 : Nat} (hn : fstS M E H [ba, bb, bc] = (r1, true)) (hs : sgsS M E [ba, bb, bc] = false) :
    Calls Tryz.prog 14 #[.agg #[.int .i64 (B : Int), .int .i64 (P : Int), .int .i64 (W : Int)], .int .i64 mode, .int .u64 (ba : Int), .int .u64 (bb : Int), .int .u64 (bc : Int)] w (ToX w r1 0 0) := by
  have HL : Hid (∀ x ∈ [ba, bb, bc], x < 18446744073709551616) := Lib.hid (by intro x hx; simp only [List.mem_cons, List.not_mem_nil, or_false] at hx; omega)
  have HW := Lib.hid hw
  clear hw
  have HA := Lib.hid ca
  have HB := Lib.hid cb
  have HC := Lib.hid cc
  clear ca cb cc
  have HF := Lib.hid hn
  clear hn
  have HS := Lib.hid hs
  clear hs
  go_enter Tryz.func14, Tryz.ntmps14
  go_wp2_with fail
  obtain ⟨V, hV, z4, BW, sW⟩ := fframe1 w 29 (B : Int) (P : Int) (W : Int)
  rw [hV]
  clear hV
  obtain ⟨w1, e_w1⟩ : ∃ w', V.alloc (.cells #[.int .u64 (ba : Int), .int .u64 (bb : Int), .int .u64 (bc : Int)] 22) = w' := ⟨_, rfl⟩
  have b : Below V.heap.size V w1 := e_w1 ▸ below_lit _ _
  have hs_w1 : w1.heap.size = (w.heap.size + 1) + 1 := e_w1 ▸ size_lit V _ sW
  have ob : OB w1 (w.heap.size + 1) [ba, bb, bc] := e_w1 ▸ OB.three V sW ba bb bc
  rw [e_w1]
  clear e_w1
  replace z4 := z4.on b
  replace BW := Below.step BW b
  clear b
  clear hs_w1
  clear sW
  refine (rwrong_as hf [ba, bb, bc] HL.out (n := 3) rfl (by omega) ob mode q HW.out).mono ?_
  rintro en w2 ⟨rfl, b⟩
  replace z4 := z4.on b
  replace ob := ob.on b
  replace BW := Below.step BW b
  clear b
  obtain ⟨z4c0, z4c1, z4c2, z4f0, z4f1, z4f2, z4l⟩ := z4.cells
  go_wp2_with fail
  refine (rclass_as hf ba qa hba HA.out _).mono ?_
  rintro en w3 ⟨rfl, b⟩
  clear z4c0 z4c1 z4c2 z4f0 z4f1 z4f2 z4l
  replace z4 := z4.on b
  replace ob := ob.on b
  replace BW := Below.step BW b
  clear b
  obtain ⟨z4c0, z4c1, z4c2, z4f0, z4f1, z4f2, z4l⟩ := z4.cells
  go_wp2_with fail
  refine (rclass_as hf bb qb hbb HB.out _).mono ?_
  rintro en w4 ⟨rfl, b⟩
  clear z4c0 z4c1 z4c2 z4f0 z4f1 z4f2 z4l
  replace z4 := z4.on b
  replace ob := ob.on b
  replace BW := Below.step BW b
  clear b
  obtain ⟨z4c0, z4c1, z4c2, z4f0, z4f1, z4f2, z4l⟩ := z4.cells
  go_wp2_with fail
  refine (rclass_as hf bc qc hbc HC.out _).mono ?_
  rintro en w5 ⟨rfl, b⟩
  clear z4c0 z4c1 z4c2 z4f0 z4f1 z4f2 z4l
  replace z4 := z4.on b
  replace ob := ob.on b
  replace BW := Below.step BW b
  clear b
  obtain ⟨z4c0, z4c1, z4c2, z4f0, z4f1, z4f2, z4l⟩ := z4.cells
  go_wp2_with fail
  refine (rfirst_as hf [ba, bb, bc] HL.out (n := 3) rfl (by omega) ob HF.out).mono ?_
  rintro en w6 ⟨rfl, b⟩
  clear z4c0 z4c1 z4c2 z4f0 z4f1 z4f2 z4l
  replace z4 := z4.on b
  replace ob := ob.on b
  replace BW := Below.step BW b
  clear b
  obtain ⟨z4c0, z4c1, z4c2, z4f0, z4f1, z4f2, z4l⟩ := z4.cells
  go_wp2_with fail
  refine (rsignals_as hf [ba, bb, bc] HL.out (n := 3) rfl (by omega) ob false HS.out).mono ?_
  rintro en w7 ⟨rfl, b⟩
  clear z4c0 z4c1 z4c2 z4f0 z4f1 z4f2 z4l
  replace z4 := z4.on b
  replace ob := ob.on b
  replace BW := Below.step BW b
  clear b
  go_wp2_with fail
  refine bodyPost_ret (v := .tuple #[.int .u64 (r1 : Int), .int .i64 0, .int .i64 0]) (by simp [results, Tryz.results14, go_sem]) rfl ⟨rfl, BW⟩
set_option maxHeartbeats 4000000 in
set_option maxRecDepth 100000 in
theorem rfma_none6t {B P W M E H : Nat} {low : Int} (hf : Fm B P W M E H low) (mode : Int) (ba bb bc : Nat) (hba : ba < 18446744073709551616) (hbb : bb < 18446744073709551616) (hbc : bc < 18446744073709551616) {w : World} (q : Int) (hw : wrongS H mode [ba, bb, bc] = q) (dq : (q != 0) = false) {qa qb qc : Int} (ca : clsS M E ba = qa) (cb : clsS M E bb = qb) (cc : clsS M E bc = qc) (e0 : (qa == 3) = false) (e1 : (qa == 0) = false) (e2 : (qb == 3) = false) {r1 : Nat} (hn : fstS M E H [ba, bb, bc] = (r1, true)) (hs : sgsS M E [ba, bb, bc] = true) :
    Calls Tryz.prog 14 #[.agg #[.int .i64 (B : Int), .int .i64 (P : Int), .int .i64 (W : Int)], .int .i64 mode, .int .u64 (ba : Int), .int .u64 (bb : Int), .int .u64 (bc : Int)] w (ToX w r1 16 0) := by
  have HL : Hid (∀ x ∈ [ba, bb, bc], x < 18446744073709551616) := Lib.hid (by intro x hx; simp only [List.mem_cons, List.not_mem_nil, or_false] at hx; omega)
  have HW := Lib.hid hw
  clear hw
  have HA := Lib.hid ca
  have HB := Lib.hid cb
  have HC := Lib.hid cc
  clear ca cb cc
  have HF := Lib.hid hn
  clear hn
  have HS := Lib.hid hs
  clear hs
  go_enter Tryz.func14, Tryz.ntmps14
  go_wp2_with fail
  obtain ⟨V, hV, z4, BW, sW⟩ := fframe1 w 29 (B : Int) (P : Int) (W : Int)
  rw [hV]
  clear hV
  obtain ⟨w1, e_w1⟩ : ∃ w', V.alloc (.cells #[.int .u64 (ba : Int), .int .u64 (bb : Int), .int .u64 (bc : Int)] 22) = w' := ⟨_, rfl⟩
  have b : Below V.heap.size V w1 := e_w1 ▸ below_lit _ _
  have hs_w1 : w1.heap.size = (w.heap.size + 1) + 1 := e_w1 ▸ size_lit V _ sW
  have ob : OB w1 (w.heap.size + 1) [ba, bb, bc] := e_w1 ▸ OB.three V sW ba bb bc
  rw [e_w1]
  clear e_w1
  replace z4 := z4.on b
  replace BW := Below.step BW b
  clear b
  clear hs_w1
  clear sW
  refine (rwrong_as hf [ba, bb, bc] HL.out (n := 3) rfl (by omega) ob mode q HW.out).mono ?_
  rintro en w2 ⟨rfl, b⟩
  replace z4 := z4.on b
  replace ob := ob.on b
  replace BW := Below.step BW b
  clear b
  obtain ⟨z4c0, z4c1, z4c2, z4f0, z4f1, z4f2, z4l⟩ := z4.cells
  go_wp2_with fail
  refine (rclass_as hf ba qa hba HA.out _).mono ?_
  rintro en w3 ⟨rfl, b⟩
  clear z4c0 z4c1 z4c2 z4f0 z4f1 z4f2 z4l
  replace z4 := z4.on b
  replace ob := ob.on b
  replace BW := Below.step BW b
  clear b
  obtain ⟨z4c0, z4c1, z4c2, z4f0, z4f1, z4f2, z4l⟩ := z4.cells
  go_wp2_with fail
  refine (rclass_as hf bb qb hbb HB.out _).mono ?_
  rintro en w4 ⟨rfl, b⟩
  clear z4c0 z4c1 z4c2 z4f0 z4f1 z4f2 z4l
  replace z4 := z4.on b
  replace ob := ob.on b
  replace BW := Below.step BW b
  clear b
  obtain ⟨z4c0, z4c1, z4c2, z4f0, z4f1, z4f2, z4l⟩ := z4.cells
  go_wp2_with fail
  refine (rclass_as hf bc qc hbc HC.out _).mono ?_
  rintro en w5 ⟨rfl, b⟩
  clear z4c0 z4c1 z4c2 z4f0 z4f1 z4f2 z4l
  replace z4 := z4.on b
  replace ob := ob.on b
  replace BW := Below.step BW b
  clear b
  obtain ⟨z4c0, z4c1, z4c2, z4f0, z4f1, z4f2, z4l⟩ := z4.cells
  go_wp2_with fail
  refine (rfirst_as hf [ba, bb, bc] HL.out (n := 3) rfl (by omega) ob HF.out).mono ?_
  rintro en w6 ⟨rfl, b⟩
  clear z4c0 z4c1 z4c2 z4f0 z4f1 z4f2 z4l
  replace z4 := z4.on b
  replace ob := ob.on b
  replace BW := Below.step BW b
  clear b
  obtain ⟨z4c0, z4c1, z4c2, z4f0, z4f1, z4f2, z4l⟩ := z4.cells
  go_wp2_with fail
  refine (rsignals_as hf [ba, bb, bc] HL.out (n := 3) rfl (by omega) ob true HS.out).mono ?_
  rintro en w7 ⟨rfl, b⟩
  clear z4c0 z4c1 z4c2 z4f0 z4f1 z4f2 z4l
  replace z4 := z4.on b
  replace ob := ob.on b
  replace BW := Below.step BW b
  clear b
  go_wp2_with fail
  refine bodyPost_ret (v := .tuple #[.int .u64 (r1 : Int), .int .i64 16, .int .i64 0]) (by simp [results, Tryz.results14, go_sem]) rfl ⟨rfl, BW⟩
set_option maxHeartbeats 4000000 in
set_option maxRecDepth 100000 in
theorem rfma_none6f {B P W M E H : Nat} {low : Int} (hf : Fm B P W M E H low) (mode : Int) (ba bb bc : Nat) (hba : ba < 18446744073709551616) (hbb : bb < 18446744073709551616) (hbc : bc < 18446744073709551616) {w : World} (q : Int) (hw : wrongS H mode [ba, bb, bc] = q) (dq : (q != 0) = false) {qa qb qc : Int} (ca : clsS M E ba = qa) (cb : clsS M E bb = qb) (cc : clsS M E bc = qc) (e0 : (qa == 3) = false) (e1 : (qa == 0) = false) (e2 : (qb == 3) = false) {r1 : Nat} (hn : fstS M E H [ba, bb, bc] = (r1, true)) (hs : sgsS M E [ba, bb, bc] = false) :
    Calls Tryz.prog 14 #[.agg #[.int .i64 (B : Int), .int .i64 (P : Int), .int .i64 (W : Int)], .int .i64 mode, .int .u64 (ba : Int), .int .u64 (bb : Int), .int .u64 (bc : Int)] w (ToX w r1 0 0) := by
  have HL : Hid (∀ x ∈ [ba, bb, bc], x < 18446744073709551616) := Lib.hid (by intro x hx; simp only [List.mem_cons, List.not_mem_nil, or_false] at hx; omega)
  have HW := Lib.hid hw
  clear hw
  have HA := Lib.hid ca
  have HB := Lib.hid cb
  have HC := Lib.hid cc
  clear ca cb cc
  have HF := Lib.hid hn
  clear hn
  have HS := Lib.hid hs
  clear hs
  go_enter Tryz.func14, Tryz.ntmps14
  go_wp2_with fail
  obtain ⟨V, hV, z4, BW, sW⟩ := fframe1 w 29 (B : Int) (P : Int) (W : Int)
  rw [hV]
  clear hV
  obtain ⟨w1, e_w1⟩ : ∃ w', V.alloc (.cells #[.int .u64 (ba : Int), .int .u64 (bb : Int), .int .u64 (bc : Int)] 22) = w' := ⟨_, rfl⟩
  have b : Below V.heap.size V w1 := e_w1 ▸ below_lit _ _
  have hs_w1 : w1.heap.size = (w.heap.size + 1) + 1 := e_w1 ▸ size_lit V _ sW
  have ob : OB w1 (w.heap.size + 1) [ba, bb, bc] := e_w1 ▸ OB.three V sW ba bb bc
  rw [e_w1]
  clear e_w1
  replace z4 := z4.on b
  replace BW := Below.step BW b
  clear b
  clear hs_w1
  clear sW
  refine (rwrong_as hf [ba, bb, bc] HL.out (n := 3) rfl (by omega) ob mode q HW.out).mono ?_
  rintro en w2 ⟨rfl, b⟩
  replace z4 := z4.on b
  replace ob := ob.on b
  replace BW := Below.step BW b
  clear b
  obtain ⟨z4c0, z4c1, z4c2, z4f0, z4f1, z4f2, z4l⟩ := z4.cells
  go_wp2_with fail
  refine (rclass_as hf ba qa hba HA.out _).mono ?_
  rintro en w3 ⟨rfl, b⟩
  clear z4c0 z4c1 z4c2 z4f0 z4f1 z4f2 z4l
  replace z4 := z4.on b
  replace ob := ob.on b
  replace BW := Below.step BW b
  clear b
  obtain ⟨z4c0, z4c1, z4c2, z4f0, z4f1, z4f2, z4l⟩ := z4.cells
  go_wp2_with fail
  refine (rclass_as hf bb qb hbb HB.out _).mono ?_
  rintro en w4 ⟨rfl, b⟩
  clear z4c0 z4c1 z4c2 z4f0 z4f1 z4f2 z4l
  replace z4 := z4.on b
  replace ob := ob.on b
  replace BW := Below.step BW b
  clear b
  obtain ⟨z4c0, z4c1, z4c2, z4f0, z4f1, z4f2, z4l⟩ := z4.cells
  go_wp2_with fail
  refine (rclass_as hf bc qc hbc HC.out _).mono ?_
  rintro en w5 ⟨rfl, b⟩
  clear z4c0 z4c1 z4c2 z4f0 z4f1 z4f2 z4l
  replace z4 := z4.on b
  replace ob := ob.on b
  replace BW := Below.step BW b
  clear b
  obtain ⟨z4c0, z4c1, z4c2, z4f0, z4f1, z4f2, z4l⟩ := z4.cells
  go_wp2_with fail
  refine (rfirst_as hf [ba, bb, bc] HL.out (n := 3) rfl (by omega) ob HF.out).mono ?_
  rintro en w6 ⟨rfl, b⟩
  clear z4c0 z4c1 z4c2 z4f0 z4f1 z4f2 z4l
  replace z4 := z4.on b
  replace ob := ob.on b
  replace BW := Below.step BW b
  clear b
  obtain ⟨z4c0, z4c1, z4c2, z4f0, z4f1, z4f2, z4l⟩ := z4.cells
  go_wp2_with fail
  refine (rsignals_as hf [ba, bb, bc] HL.out (n := 3) rfl (by omega) ob false HS.out).mono ?_
  rintro en w7 ⟨rfl, b⟩
  clear z4c0 z4c1 z4c2 z4f0 z4f1 z4f2 z4l
  replace z4 := z4.on b
  replace ob := ob.on b
  replace BW := Below.step BW b
  clear b
  go_wp2_with fail
  refine bodyPost_ret (v := .tuple #[.int .u64 (r1 : Int), .int .i64 0, .int .i64 0]) (by simp [results, Tryz.results14, go_sem]) rfl ⟨rfl, BW⟩
end Go.Proofs.YtpachoeignpcbaaGreatDoor
