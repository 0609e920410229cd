
/-
  The walk of the law FormatOrder.
-/
import Derived.Test.YtflicmdgijghaaaDoorFw
import Derived.Test.YtflicmdgijghaaaDoorFval
import Derived.Test.YtflicmdgijghaaaDoorFopen
namespace Go.Proofs.YtflicmdgijghaaaDoor
open Go.RowKit
set_option linter.unusedVariables false

theorem order_bad (bits a b : Int) (h1 : bits ≠ 16) (h2 : bits ≠ 32) (h3 : bits ≠ 64) {w : World} (hT : Tab w) (hF : Frm w) :
    Calls Tryd.prog 6 #[.int .i64 bits, .int .u64 a, .int .u64 b] w fun e w' => e = .returned (.bool true) ∧ Below w.heap.size w w' := by
  go_enter Tryd.func6, Tryd.ntmps6
  go_wp2_with fail
  refine (awake3_any hT hF).mono ?_
  rintro en w1 ⟨rfl, b⟩
  replace hT := hT.on b
  replace hF := hF.on b
  have BW := b
  clear b
  go_wp2_with fail
  refine (of_bad bits h1 h2 h3 _ hF).mono ?_
  rintro en w2 ⟨rfl, b⟩
  replace hT := hT.on b
  replace hF := hF.on b
  replace BW := Below.step BW b
  clear b
  go_wp2_with fail
  go_ret
  exact ⟨rfl, Below.step BW (below_lit _ _)⟩
/-- the bits that the law looks at beside its own. -/
theorem fm_bits {B P W M E H : Nat} {low : Int} (hf : Fm B P W M E H low) : ∃ g1 i1 g2 i2 n1 : Nat, sgn H false (M * E) = g1 + 1 ∧ sgn H false (M * E) = i1 ∧ sgn H true (M * E) = g2 + 1 ∧ sgn H true (M * E) = i2 ∧ M * E + M / 2 = n1 ∧
    clsS M E g2 = 2 ∧ clsS M E i2 = 3 ∧ clsS M E n1 = 4 ∧ i1 = g1 + 1 ∧ i1 < 18446744073709551616 ∧ i2 < 18446744073709551616 ∧ g2 < 18446744073709551616 ∧ n1 < 18446744073709551616 := by
  rcases hf with ⟨rfl, rfl, rfl, rfl, rfl, rfl, rfl⟩ | ⟨rfl, rfl, rfl, rfl, rfl, rfl, rfl⟩ | ⟨rfl, rfl, rfl, rfl, rfl, rfl, rfl⟩
  · exact ⟨31743, 31744, 64511, 64512, 32256, by decide, by decide, by decide, by decide, by decide, by decide, by decide, by decide, by decide, by decide, by decide, by decide, by decide⟩
  · exact ⟨2139095039, 2139095040, 4286578687, 4286578688, 2143289344, by decide, by decide, by decide, by decide, by decide, by decide, by decide, by decide, by decide, by decide, by decide, by decide, by decide⟩
  · exact ⟨9218868437227405311, 9218868437227405312, 18442240474082181119, 18442240474082181120, 9221120237041090560, by decide, by decide, by decide, by decide, by decide, by decide, by decide, by decide, by decide, by decide, by decide, by decide, by decide⟩
set_option maxHeartbeats 4000000 in
set_option maxRecDepth 100000 in
theorem order_none1 {B P W M E H : Nat} {low : Int} (hf : Fm B P W M E H low) (ka kb x y : Nat) (ha : ka < 18446744073709551616) (hb : kb < 18446744073709551616) (hx : ka % H = x) (hy : kb % H = y) (hEx : x / M % (E + 1) = E) (hEy : y / M % (E + 1) = E) {w : World} (hT : Tab w) (hF : Frm w) :
    Calls Tryd.prog 6 #[.int .i64 (B : Int), .int .u64 (ka : Int), .int .u64 (kb : Int)] w fun e w' => e = .returned (.bool true) ∧ Below w.heap.size w w' := by
  obtain ⟨b1, b2, b3, b4, b5, b6, b7, b8, b9, b10, b11, b12, b13, b14, b15⟩ := hf.bd
  have hH : 0 < H := by omega
  have hxH : x < H := by rw [← hx]; exact Nat.mod_lt _ hH
  have hyH : y < H := by rw [← hy]; exact Nat.mod_lt _ hH
  have hx2 : x < 18446744073709551616 := by omega
  have hy2 : y < 18446744073709551616 := by omega
  have HN : Hid (sgn H true 0 = H) := Lib.hid (by unfold sgn; simp)
  have q1 : (ka : Int) % (H : Int) = (x : Int) := by rw [← Int.natCast_emod, hx]
  have q2 : (kb : Int) % (H : Int) = (y : Int) := by rw [← Int.natCast_emod, hy]
  have q1' : (ka : Int).tmod (H : Int) = (x : Int) := by rw [Int.tmod_eq_emod_of_nonneg (by omega)]; exact q1
  have q2' : (kb : Int).tmod (H : Int) = (y : Int) := by rw [Int.tmod_eq_emod_of_nonneg (by omega)]; exact q2
  obtain ⟨g1, i1, g2, i2, n1, eg1, ei1, eg2, ei2, en1, k2, k3, k4, hgi, hi1, hi2, hg2, hn1⟩ := fm_bits hf
  have G1 := Lib.hid eg1
  have I1 := Lib.hid ei1
  have G2 := Lib.hid eg2
  have I2 := Lib.hid ei2
  have N1 := Lib.hid en1
  have K2 := Lib.hid k2
  have K3 := Lib.hid k3
  have K4 := Lib.hid k4
  have q3 : IntKind.u64.wrap ((g1 : Int) + 1) = (i1 : Int) := by rw [show (g1 : Int) + 1 = ((i1 : Nat) : Int) by omega]; exact wrap64_nat i1 (by omega)
  have q4 : ((i1 : Int) != (i1 : Int)) = false := by simp
  clear eg1 ei1 eg2 ei2 en1 k2 k3 k4
  obtain ⟨xn, xx, xe, HX, hlx⟩ : ∃ (n : Bool) (x' : Nat) (e : Int), Hid (valS M E H low x = (⟨n, x', e⟩, 1)) ∧ blen x' ≤ 4096 := ⟨false, 0, 0, by unfold valS; rw [if_pos (by omega), if_pos hEx]; exact Lib.hid rfl, by rw [blen_zero]; omega⟩
  obtain ⟨yn, yx, ye, HY, hly⟩ : ∃ (n : Bool) (x' : Nat) (e : Int), Hid (valS M E H low y = (⟨n, x', e⟩, 1)) ∧ blen x' ≤ 4096 := ⟨false, 0, 0, by unfold valS; rw [if_pos (by omega), if_pos hEy]; exact Lib.hid rfl, by rw [blen_zero]; omega⟩
  clear hx hy b1 hEx hEy hgi
  go_enter Tryd.func6, Tryd.ntmps6
  go_wp2_with fail
  refine (awake3_any hT hF).mono ?_
  rintro en w1 ⟨rfl, b⟩
  replace hT := hT.on b
  replace hF := hF.on b
  have BW := b
  clear b
  go_wp2_with fail
  refine (of_fm hf _ hF).mono ?_
  rintro en w2 ⟨rfl, b⟩
  replace hT := hT.on b
  replace hF := hF.on b
  replace BW := Below.step BW b
  clear b
  go_wp2_with fail
  obtain ⟨w3, e_w3⟩ : ∃ w', w2.alloc (.cells #[.int .i64 (B : Int), .int .i64 (P : Int), .int .i64 (W : Int)] 25) = w' := ⟨_, rfl⟩
  have b : Below w2.heap.size w2 w3 := e_w3 ▸ below_lit _ _
  have hs_w3 : w3.heap.size = w2.heap.size + 1 := e_w3 ▸ size_lit w2 _ rfl
  have zf : FB w3 w2.heap.size 25 (B : Int) (P : Int) (W : Int) := e_w3 ▸ Box.made_at w2 rfl 25 (notU_int _) (notU_int _) (notU_int _)
  rw [e_w3]
  clear e_w3
  replace hT := hT.on b
  replace hF := hF.on b
  replace BW := Below.step BW b
  clear b
  refine (nought_as hf true H HN.out _).mono ?_
  rintro en w4 ⟨rfl, b⟩
  replace hT := hT.on b
  replace hF := hF.on b
  replace zf := zf.on b
  replace BW := Below.step BW b
  clear b
  obtain ⟨zfc0, zfc1, zfc2, zff0, zff1, zff2, zfl⟩ := zf.cells
  go_wp2_with fail
  go_region
  clear zfc0 zfc1 zfc2 zff0 zff1 zff2 zfl
  obtain ⟨w5, e_w5⟩ : ∃ w', w4.drew = w' := ⟨_, rfl⟩
  have b : Below w4.heap.size w4 w5 := e_w5 ▸ (Below.refl _ _).drew
  rw [e_w5]
  clear e_w5
  replace hT := hT.on b
  replace hF := hF.on b
  replace zf := zf.on b
  replace BW := Below.step BW b
  clear b
  obtain ⟨zfc0, zfc1, zfc2, zff0, zff1, zff2, zfl⟩ := zf.cells
  go_wp2_with fail
  refine (value_as hf x hx2 hT HX.out).mono ?_
  rintro en w6 ⟨V_rx, v_rx, rfl, rx, b⟩
  clear zfc0 zfc1 zfc2 zff0 zff1 zff2 zfl
  replace hT := hT.on b
  replace hF := hF.on b
  replace zf := zf.on b
  replace BW := Below.step BW b
  clear b
  have lx := res_n_le rx (k := 128) hlx
  obtain ⟨zfc0, zfc1, zfc2, zff0, zff1, zff2, zfl⟩ := zf.cells
  go_wp2_with fail
  clear zfc0 zfc1 zfc2 zff0 zff1 zff2 zfl
  obtain ⟨w7, e_w7⟩ : ∃ w', w6.alloc (dob xn V_rx v_rx v_rx xe 37) = w' := ⟨_, rfl⟩
  have b : Below w6.heap.size w6 w7 := e_w7 ▸ below_lit _ _
  have hs_w7 : w7.heap.size = w6.heap.size + 1 := e_w7 ▸ size_lit w6 _ rfl
  have zx : DB w7 w6.heap.size 37 xn V_rx v_rx v_rx xe := e_w7 ▸ DB.made w6 rfl 37 xn V_rx v_rx v_rx xe
  rw [e_w7]
  clear e_w7
  replace hT := hT.on b
  replace hF := hF.on b
  replace zf := zf.on b
  replace rx := rx.on b
  replace BW := Below.step BW b
  clear b
  refine (value_as hf y hy2 hT HY.out).mono ?_
  rintro en w8 ⟨V_ry, v_ry, rfl, ry, b⟩
  replace hT := hT.on b
  replace hF := hF.on b
  replace zf := zf.on b
  replace rx := rx.on b
  replace zx := zx.on b
  replace BW := Below.step BW b
  clear b
  have ly := res_n_le ry (k := 128) hly
  obtain ⟨zfc0, zfc1, zfc2, zff0, zff1, zff2, zfl⟩ := zf.cells
  obtain ⟨zxc0, zxc1, zxc2, zxf0, zxf1, zxf2, zxl⟩ := zx.cells
  go_wp2_with fail
  clear zfc0 zfc1 zfc2 zff0 zff1 zff2 zfl zxc0 zxc1 zxc2 zxf0 zxf1 zxf2 zxl
  obtain ⟨w9, e_w9⟩ : ∃ w', w8.alloc (dob yn V_ry v_ry v_ry ye 37) = w' := ⟨_, rfl⟩
  have b : Below w8.heap.size w8 w9 := e_w9 ▸ below_lit _ _
  have hs_w9 : w9.heap.size = w8.heap.size + 1 := e_w9 ▸ size_lit w8 _ rfl
  have zy : DB w9 w8.heap.size 37 yn V_ry v_ry v_ry ye := e_w9 ▸ DB.made w8 rfl 37 yn V_ry v_ry v_ry ye
  rw [e_w9]
  clear e_w9
  replace hT := hT.on b
  replace hF := hF.on b
  replace zf := zf.on b
  replace rx := rx.on b
  replace zx := zx.on b
  replace ry := ry.on b
  replace BW := Below.step BW b
  clear b
  try dsimp only [List.append]
  refine region_plan [0, 3, 1, 2, 4, 5, 6, 7, 8, 9, 10, 11, 12, 13, 14, 15, 16, 17, 18, 19, 20, 21, 22, 23, 24, 25, 26] (by kernel_rfl) (by kernel_rfl) (by kernel_rfl) (by kernel_rfl) (by kernel_rfl) ?_
  dsimp only [pick, nth]
  replace hT := hT.on ((Below.refl _ _).drew : Below w9.heap.size w9 w9.drew)
  replace hF := hF.on ((Below.refl _ _).drew : Below w9.heap.size w9 w9.drew)
  replace zf := zf.on ((Below.refl _ _).drew : Below w9.heap.size w9 w9.drew)
  replace rx := rx.on ((Below.refl _ _).drew : Below w9.heap.size w9 w9.drew)
  replace zx := zx.on ((Below.refl _ _).drew : Below w9.heap.size w9 w9.drew)
  replace ry := ry.on ((Below.refl _ _).drew : Below w9.heap.size w9 w9.drew)
  replace zy := zy.on ((Below.refl _ _).drew : Below w9.heap.size w9 w9.drew)
  replace BW := Below.step BW ((Below.refl _ _).drew : Below w9.heap.size w9 w9.drew)
  obtain ⟨w10, e_w10⟩ : ∃ w', w9.drew = w' := ⟨_, rfl⟩
  rw [e_w10] at hT hF zf rx zx ry zy BW ⊢
  clear e_w10
  have lf0 : ∀ s : Wd w10, s.w.cell? ⟨w2.heap.size, 0, none⟩ = some (.int .i64 (B : Int)) := fun s => (zf.on s.below).cells.1
  have lf1 : ∀ s : Wd w10, s.w.cell? ⟨w2.heap.size, 1, none⟩ = some (.int .i64 (P : Int)) := fun s => (zf.on s.below).cells.2.1
  have lf2 : ∀ s : Wd w10, s.w.cell? ⟨w2.heap.size, 2, none⟩ = some (.int .i64 (W : Int)) := fun s => (zf.on s.below).cells.2.2.1
  refine lex_plain 2 (by kernel_rfl) ?_
  dsimp only [List.take, List.drop]
  repeat go_big_quiet_step (fail)
  refine wpQuiet_nil ?_
  clear lf0 lf1 lf2
  refine lex_call (by kernel_rfl) (by kernel_rfl) (fun w11 b K hK => ?_)
  replace hT := hT.on b
  replace hF := hF.on b
  replace zf := zf.on b
  replace rx := rx.on b
  replace zx := zx.on b
  replace ry := ry.on b
  replace zy := zy.on b
  replace BW := Below.step BW b
  clear b
  go_simp
  refine (greatest_as hf false g1 G1.out _).mono ?_
  rintro en w12 ⟨rfl, b⟩
  dsimp only
  refine hK _ _ b ?_
  clear hK K
  replace hT := hT.on b
  replace hF := hF.on b
  replace zf := zf.on b
  replace rx := rx.on b
  replace zx := zx.on b
  replace ry := ry.on b
  replace zy := zy.on b
  replace BW := Below.step BW b
  clear b
  have lf0 : ∀ s : Wd w12, s.w.cell? ⟨w2.heap.size, 0, none⟩ = some (.int .i64 (B : Int)) := fun s => (zf.on s.below).cells.1
  have lf1 : ∀ s : Wd w12, s.w.cell? ⟨w2.heap.size, 1, none⟩ = some (.int .i64 (P : Int)) := fun s => (zf.on s.below).cells.2.1
  have lf2 : ∀ s : Wd w12, s.w.cell? ⟨w2.heap.size, 2, none⟩ = some (.int .i64 (W : Int)) := fun s => (zf.on s.below).cells.2.2.1
  refine lex_plain 1 (by kernel_rfl) ?_
  dsimp only [List.take, List.drop]
  repeat go_big_quiet_step (fail)
  refine wpQuiet_nil ?_
  clear lf0 lf1 lf2
  refine lex_call (by kernel_rfl) (by kernel_rfl) (fun w13 b K hK => ?_)
  replace hT := hT.on b
  replace hF := hF.on b
  replace zf := zf.on b
  replace rx := rx.on b
  replace zx := zx.on b
  replace ry := ry.on b
  replace zy := zy.on b
  replace BW := Below.step BW b
  clear b
  go_simp
  refine (infinite_as hf false i1 I1.out _).mono ?_
  rintro en w14 ⟨rfl, b⟩
  dsimp only
  refine hK _ _ b ?_
  clear hK K
  replace hT := hT.on b
  replace hF := hF.on b
  replace zf := zf.on b
  replace rx := rx.on b
  replace zx := zx.on b
  replace ry := ry.on b
  replace zy := zy.on b
  replace BW := Below.step BW b
  clear b
  have lf0 : ∀ s : Wd w14, s.w.cell? ⟨w2.heap.size, 0, none⟩ = some (.int .i64 (B : Int)) := fun s => (zf.on s.below).cells.1
  have lf1 : ∀ s : Wd w14, s.w.cell? ⟨w2.heap.size, 1, none⟩ = some (.int .i64 (P : Int)) := fun s => (zf.on s.below).cells.2.1
  have lf2 : ∀ s : Wd w14, s.w.cell? ⟨w2.heap.size, 2, none⟩ = some (.int .i64 (W : Int)) := fun s => (zf.on s.below).cells.2.2.1
  refine lex_plain 4 (by kernel_rfl) ?_
  dsimp only [List.take, List.drop]
  repeat go_big_quiet_step (fail)
  refine wpQuiet_nil ?_
  clear lf0 lf1 lf2
  refine lex_call (by kernel_rfl) (by kernel_rfl) (fun w15 b K hK => ?_)
  replace hT := hT.on b
  replace hF := hF.on b
  replace zf := zf.on b
  replace rx := rx.on b
  replace zx := zx.on b
  replace ry := ry.on b
  replace zy := zy.on b
  replace BW := Below.step BW b
  clear b
  go_simp
  refine (greatest_as hf true g2 G2.out _).mono ?_
  rintro en w16 ⟨rfl, b⟩
  dsimp only
  refine hK _ _ b ?_
  clear hK K
  replace hT := hT.on b
  replace hF := hF.on b
  replace zf := zf.on b
  replace rx := rx.on b
  replace zx := zx.on b
  replace ry := ry.on b
  replace zy := zy.on b
  replace BW := Below.step BW b
  clear b
  refine lex_call (by kernel_rfl) (by kernel_rfl) (fun w17 b K hK => ?_)
  replace hT := hT.on b
  replace hF := hF.on b
  replace zf := zf.on b
  replace rx := rx.on b
  replace zx := zx.on b
  replace ry := ry.on b
  replace zy := zy.on b
  replace BW := Below.step BW b
  clear b
  go_simp
  refine (class_as hf g2 2 hg2 K2.out _).mono ?_
  rintro en w18 ⟨rfl, b⟩
  dsimp only
  refine hK _ _ b ?_
  clear hK K
  replace hT := hT.on b
  replace hF := hF.on b
  replace zf := zf.on b
  replace rx := rx.on b
  replace zx := zx.on b
  replace ry := ry.on b
  replace zy := zy.on b
  replace BW := Below.step BW b
  clear b
  have lf0 : ∀ s : Wd w18, s.w.cell? ⟨w2.heap.size, 0, none⟩ = some (.int .i64 (B : Int)) := fun s => (zf.on s.below).cells.1
  have lf1 : ∀ s : Wd w18, s.w.cell? ⟨w2.heap.size, 1, none⟩ = some (.int .i64 (P : Int)) := fun s => (zf.on s.below).cells.2.1
  have lf2 : ∀ s : Wd w18, s.w.cell? ⟨w2.heap.size, 2, none⟩ = some (.int .i64 (W : Int)) := fun s => (zf.on s.below).cells.2.2.1
  refine lex_plain 5 (by kernel_rfl) ?_
  dsimp only [List.take, List.drop]
  repeat go_big_quiet_step (fail)
  refine wpQuiet_nil ?_
  clear lf0 lf1 lf2
  refine lex_call (by kernel_rfl) (by kernel_rfl) (fun w19 b K hK => ?_)
  replace hT := hT.on b
  replace hF := hF.on b
  replace zf := zf.on b
  replace rx := rx.on b
  replace zx := zx.on b
  replace ry := ry.on b
  replace zy := zy.on b
  replace BW := Below.step BW b
  clear b
  go_simp
  refine (infinite_as hf true i2 I2.out _).mono ?_
  rintro en w20 ⟨rfl, b⟩
  dsimp only
  refine hK _ _ b ?_
  clear hK K
  replace hT := hT.on b
  replace hF := hF.on b
  replace zf := zf.on b
  replace rx := rx.on b
  replace zx := zx.on b
  replace ry := ry.on b
  replace zy := zy.on b
  replace BW := Below.step BW b
  clear b
  refine lex_call (by kernel_rfl) (by kernel_rfl) (fun w21 b K hK => ?_)
  replace hT := hT.on b
  replace hF := hF.on b
  replace zf := zf.on b
  replace rx := rx.on b
  replace zx := zx.on b
  replace ry := ry.on b
  replace zy := zy.on b
  replace BW := Below.step BW b
  clear b
  go_simp
  refine (class_as hf i2 3 hi2 K3.out _).mono ?_
  rintro en w22 ⟨rfl, b⟩
  dsimp only
  refine hK _ _ b ?_
  clear hK K
  replace hT := hT.on b
  replace hF := hF.on b
  replace zf := zf.on b
  replace rx := rx.on b
  replace zx := zx.on b
  replace ry := ry.on b
  replace zy := zy.on b
  replace BW := Below.step BW b
  clear b
  have lf0 : ∀ s : Wd w22, s.w.cell? ⟨w2.heap.size, 0, none⟩ = some (.int .i64 (B : Int)) := fun s => (zf.on s.below).cells.1
  have lf1 : ∀ s : Wd w22, s.w.cell? ⟨w2.heap.size, 1, none⟩ = some (.int .i64 (P : Int)) := fun s => (zf.on s.below).cells.2.1
  have lf2 : ∀ s : Wd w22, s.w.cell? ⟨w2.heap.size, 2, none⟩ = some (.int .i64 (W : Int)) := fun s => (zf.on s.below).cells.2.2.1
  refine lex_plain 5 (by kernel_rfl) ?_
  dsimp only [List.take, List.drop]
  repeat go_big_quiet_step (fail)
  refine wpQuiet_nil ?_
  clear lf0 lf1 lf2
  refine lex_call (by kernel_rfl) (by kernel_rfl) (fun w23 b K hK => ?_)
  replace hT := hT.on b
  replace hF := hF.on b
  replace zf := zf.on b
  replace rx := rx.on b
  replace zx := zx.on b
  replace ry := ry.on b
  replace zy := zy.on b
  replace BW := Below.step BW b
  clear b
  go_simp
  refine (fnone_as hf n1 N1.out _).mono ?_
  rintro en w24 ⟨rfl, b⟩
  dsimp only
  refine hK _ _ b ?_
  clear hK K
  replace hT := hT.on b
  replace hF := hF.on b
  replace zf := zf.on b
  replace rx := rx.on b
  replace zx := zx.on b
  replace ry := ry.on b
  replace zy := zy.on b
  replace BW := Below.step BW b
  clear b
  refine lex_call (by kernel_rfl) (by kernel_rfl) (fun w25 b K hK => ?_)
  replace hT := hT.on b
  replace hF := hF.on b
  replace zf := zf.on b
  replace rx := rx.on b
  replace zx := zx.on b
  replace ry := ry.on b
  replace zy := zy.on b
  replace BW := Below.step BW b
  clear b
  go_simp
  refine (class_as hf n1 4 hn1 K4.out _).mono ?_
  rintro en w26 ⟨rfl, b⟩
  dsimp only
  refine hK _ _ b ?_
  clear hK K
  replace hT := hT.on b
  replace hF := hF.on b
  replace zf := zf.on b
  replace rx := rx.on b
  replace zx := zx.on b
  replace ry := ry.on b
  replace zy := zy.on b
  replace BW := Below.step BW b
  clear b
  have lf0 : ∀ s : Wd w26, s.w.cell? ⟨w2.heap.size, 0, none⟩ = some (.int .i64 (B : Int)) := fun s => (zf.on s.below).cells.1
  have lf1 : ∀ s : Wd w26, s.w.cell? ⟨w2.heap.size, 1, none⟩ = some (.int .i64 (P : Int)) := fun s => (zf.on s.below).cells.2.1
  have lf2 : ∀ s : Wd w26, s.w.cell? ⟨w2.heap.size, 2, none⟩ = some (.int .i64 (W : Int)) := fun s => (zf.on s.below).cells.2.2.1
  refine lex_plain 2 (by kernel_rfl) ?_
  dsimp only [List.take, List.drop]
  repeat go_big_quiet_step (fail)
  refine wpQuiet_nil ?_
  clear lf0 lf1 lf2
  refine lex_nil (fun w27 b => ?_)
  replace hT := hT.on b
  replace hF := hF.on b
  replace zf := zf.on b
  replace rx := rx.on b
  replace zx := zx.on b
  replace ry := ry.on b
  replace zy := zy.on b
  replace BW := Below.step BW b
  clear b
  dsimp only [NoPanic]
  obtain ⟨zfc0, zfc1, zfc2, zff0, zff1, zff2, zfl⟩ := zf.cells
  obtain ⟨zxc0, zxc1, zxc2, zxf0, zxf1, zxf2, zxl⟩ := zx.cells
  obtain ⟨zyc0, zyc1, zyc2, zyf0, zyf1, zyf2, zyl⟩ := zy.cells
  go_wp2_with fail
  go_ret
  exact ⟨rfl, BW⟩
set_option maxHeartbeats 4000000 in
set_option maxRecDepth 100000 in
theorem order_none2 {B P W M E H : Nat} {low : Int} (hf : Fm B P W M E H low) (ka kb x y : Nat) (ha : ka < 18446744073709551616) (hb : kb < 18446744073709551616) (hx : ka % H = x) (hy : kb % H = y) (hEx : x / M % (E + 1) = E) (hEy : y / M % (E + 1) ≠ E) {w : World} (hT : Tab w) (hF : Frm w) :
    Calls Tryd.prog 6 #[.int .i64 (B : Int), .int .u64 (ka : Int), .int .u64 (kb : Int)] w fun e w' => e = .returned (.bool true) ∧ Below w.heap.size w w' := by
  obtain ⟨b1, b2, b3, b4, b5, b6, b7, b8, b9, b10, b11, b12, b13, b14, b15⟩ := hf.bd
  have hH : 0 < H := by omega
  have hxH : x < H := by rw [← hx]; exact Nat.mod_lt _ hH
  have hyH : y < H := by rw [← hy]; exact Nat.mod_lt _ hH
  have hx2 : x < 18446744073709551616 := by omega
  have hy2 : y < 18446744073709551616 := by omega
  have HN : Hid (sgn H true 0 = H) := Lib.hid (by unfold sgn; simp)
  have q1 : (ka : Int) % (H : Int) = (x : Int) := by rw [← Int.natCast_emod, hx]
  have q2 : (kb : Int) % (H : Int) = (y : Int) := by rw [← Int.natCast_emod, hy]
  have q1' : (ka : Int).tmod (H : Int) = (x : Int) := by rw [Int.tmod_eq_emod_of_nonneg (by omega)]; exact q1
  have q2' : (kb : Int).tmod (H : Int) = (y : Int) := by rw [Int.tmod_eq_emod_of_nonneg (by omega)]; exact q2
  obtain ⟨g1, i1, g2, i2, n1, eg1, ei1, eg2, ei2, en1, k2, k3, k4, hgi, hi1, hi2, hg2, hn1⟩ := fm_bits hf
  have G1 := Lib.hid eg1
  have I1 := Lib.hid ei1
  have G2 := Lib.hid eg2
  have I2 := Lib.hid ei2
  have N1 := Lib.hid en1
  have K2 := Lib.hid k2
  have K3 := Lib.hid k3
  have K4 := Lib.hid k4
  have q3 : IntKind.u64.wrap ((g1 : Int) + 1) = (i1 : Int) := by rw [show (g1 : Int) + 1 = ((i1 : Nat) : Int) by omega]; exact wrap64_nat i1 (by omega)
  have q4 : ((i1 : Int) != (i1 : Int)) = false := by simp
  clear eg1 ei1 eg2 ei2 en1 k2 k3 k4
  obtain ⟨xn, xx, xe, HX, hlx⟩ : ∃ (n : Bool) (x' : Nat) (e : Int), Hid (valS M E H low x = (⟨n, x', e⟩, 1)) ∧ blen x' ≤ 4096 := ⟨false, 0, 0, by unfold valS; rw [if_pos (by omega), if_pos hEx]; exact Lib.hid rfl, by rw [blen_zero]; omega⟩
  obtain ⟨yn, yx, ye, hdy⟩ : ∃ (n : Bool) (x' : Nat) (e : Int), D.pl ⟨decide (y / H % 2 = 1), valN M E y, valP M E low y⟩ = ⟨n, x', e⟩ := ⟨_, _, _, rfl⟩
  have HY : Hid (valS M E H low y = (⟨yn, yx, ye⟩, 0)) := by unfold valS; rw [if_pos (by omega), if_neg hEy, hdy]; exact Lib.hid rfl
  have hmy := (val_may hf y (decide (y / H % 2 = 1))).2
  rw [hdy] at hmy
  have hly := ((D.may_iff _).1 hmy).1
  simp only at hly
  clear hx hy b1 hEx hEy hdy hmy hgi
  go_enter Tryd.func6, Tryd.ntmps6
  go_wp2_with fail
  refine (awake3_any hT hF).mono ?_
  rintro en w1 ⟨rfl, b⟩
  replace hT := hT.on b
  replace hF := hF.on b
  have BW := b
  clear b
  go_wp2_with fail
  refine (of_fm hf _ hF).mono ?_
  rintro en w2 ⟨rfl, b⟩
  replace hT := hT.on b
  replace hF := hF.on b
  replace BW := Below.step BW b
  clear b
  go_wp2_with fail
  obtain ⟨w3, e_w3⟩ : ∃ w', w2.alloc (.cells #[.int .i64 (B : Int), .int .i64 (P : Int), .int .i64 (W : Int)] 25) = w' := ⟨_, rfl⟩
  have b : Below w2.heap.size w2 w3 := e_w3 ▸ below_lit _ _
  have hs_w3 : w3.heap.size = w2.heap.size + 1 := e_w3 ▸ size_lit w2 _ rfl
  have zf : FB w3 w2.heap.size 25 (B : Int) (P : Int) (W : Int) := e_w3 ▸ Box.made_at w2 rfl 25 (notU_int _) (notU_int _) (notU_int _)
  rw [e_w3]
  clear e_w3
  replace hT := hT.on b
  replace hF := hF.on b
  replace BW := Below.step BW b
  clear b
  refine (nought_as hf true H HN.out _).mono ?_
  rintro en w4 ⟨rfl, b⟩
  replace hT := hT.on b
  replace hF := hF.on b
  replace zf := zf.on b
  replace BW := Below.step BW b
  clear b
  obtain ⟨zfc0, zfc1, zfc2, zff0, zff1, zff2, zfl⟩ := zf.cells
  go_wp2_with fail
  go_region
  clear zfc0 zfc1 zfc2 zff0 zff1 zff2 zfl
  obtain ⟨w5, e_w5⟩ : ∃ w', w4.drew = w' := ⟨_, rfl⟩
  have b : Below w4.heap.size w4 w5 := e_w5 ▸ (Below.refl _ _).drew
  rw [e_w5]
  clear e_w5
  replace hT := hT.on b
  replace hF := hF.on b
  replace zf := zf.on b
  replace BW := Below.step BW b
  clear b
  obtain ⟨zfc0, zfc1, zfc2, zff0, zff1, zff2, zfl⟩ := zf.cells
  go_wp2_with fail
  refine (value_as hf x hx2 hT HX.out).mono ?_
  rintro en w6 ⟨V_rx, v_rx, rfl, rx, b⟩
  clear zfc0 zfc1 zfc2 zff0 zff1 zff2 zfl
  replace hT := hT.on b
  replace hF := hF.on b
  replace zf := zf.on b
  replace BW := Below.step BW b
  clear b
  have lx := res_n_le rx (k := 128) hlx
  obtain ⟨zfc0, zfc1, zfc2, zff0, zff1, zff2, zfl⟩ := zf.cells
  go_wp2_with fail
  clear zfc0 zfc1 zfc2 zff0 zff1 zff2 zfl
  obtain ⟨w7, e_w7⟩ : ∃ w', w6.alloc (dob xn V_rx v_rx v_rx xe 37) = w' := ⟨_, rfl⟩
  have b : Below w6.heap.size w6 w7 := e_w7 ▸ below_lit _ _
  have hs_w7 : w7.heap.size = w6.heap.size + 1 := e_w7 ▸ size_lit w6 _ rfl
  have zx : DB w7 w6.heap.size 37 xn V_rx v_rx v_rx xe := e_w7 ▸ DB.made w6 rfl 37 xn V_rx v_rx v_rx xe
  rw [e_w7]
  clear e_w7
  replace hT := hT.on b
  replace hF := hF.on b
  replace zf := zf.on b
  replace rx := rx.on b
  replace BW := Below.step BW b
  clear b
  refine (value_as hf y hy2 hT HY.out).mono ?_
  rintro en w8 ⟨V_ry, v_ry, rfl, ry, b⟩
  replace hT := hT.on b
  replace hF := hF.on b
  replace zf := zf.on b
  replace rx := rx.on b
  replace zx := zx.on b
  replace BW := Below.step BW b
  clear b
  have ly := res_n_le ry (k := 128) hly
  obtain ⟨zfc0, zfc1, zfc2, zff0, zff1, zff2, zfl⟩ := zf.cells
  obtain ⟨zxc0, zxc1, zxc2, zxf0, zxf1, zxf2, zxl⟩ := zx.cells
  go_wp2_with fail
  clear zfc0 zfc1 zfc2 zff0 zff1 zff2 zfl zxc0 zxc1 zxc2 zxf0 zxf1 zxf2 zxl
  obtain ⟨w9, e_w9⟩ : ∃ w', w8.alloc (dob yn V_ry v_ry v_ry ye 37) = w' := ⟨_, rfl⟩
  have b : Below w8.heap.size w8 w9 := e_w9 ▸ below_lit _ _
  have hs_w9 : w9.heap.size = w8.heap.size + 1 := e_w9 ▸ size_lit w8 _ rfl
  have zy : DB w9 w8.heap.size 37 yn V_ry v_ry v_ry ye := e_w9 ▸ DB.made w8 rfl 37 yn V_ry v_ry v_ry ye
  rw [e_w9]
  clear e_w9
  replace hT := hT.on b
  replace hF := hF.on b
  replace zf := zf.on b
  replace rx := rx.on b
  replace zx := zx.on b
  replace ry := ry.on b
  replace BW := Below.step BW b
  clear b
  try dsimp only [List.append]
  refine region_plan [0, 3, 1, 2, 4, 5, 6, 7, 8, 9, 10, 11, 12, 13, 14, 15, 16, 17, 18, 19, 20, 21, 22, 23, 24, 25, 26] (by kernel_rfl) (by kernel_rfl) (by kernel_rfl) (by kernel_rfl) (by kernel_rfl) ?_
  dsimp only [pick, nth]
  replace hT := hT.on ((Below.refl _ _).drew : Below w9.heap.size w9 w9.drew)
  replace hF := hF.on ((Below.refl _ _).drew : Below w9.heap.size w9 w9.drew)
  replace zf := zf.on ((Below.refl _ _).drew : Below w9.heap.size w9 w9.drew)
  replace rx := rx.on ((Below.refl _ _).drew : Below w9.heap.size w9 w9.drew)
  replace zx := zx.on ((Below.refl _ _).drew : Below w9.heap.size w9 w9.drew)
  replace ry := ry.on ((Below.refl _ _).drew : Below w9.heap.size w9 w9.drew)
  replace zy := zy.on ((Below.refl _ _).drew : Below w9.heap.size w9 w9.drew)
  replace BW := Below.step BW ((Below.refl _ _).drew : Below w9.heap.size w9 w9.drew)
  obtain ⟨w10, e_w10⟩ : ∃ w', w9.drew = w' := ⟨_, rfl⟩
  rw [e_w10] at hT hF zf rx zx ry zy BW ⊢
  clear e_w10
  have lf0 : ∀ s : Wd w10, s.w.cell? ⟨w2.heap.size, 0, none⟩ = some (.int .i64 (B : Int)) := fun s => (zf.on s.below).cells.1
  have lf1 : ∀ s : Wd w10, s.w.cell? ⟨w2.heap.size, 1, none⟩ = some (.int .i64 (P : Int)) := fun s => (zf.on s.below).cells.2.1
  have lf2 : ∀ s : Wd w10, s.w.cell? ⟨w2.heap.size, 2, none⟩ = some (.int .i64 (W : Int)) := fun s => (zf.on s.below).cells.2.2.1
  refine lex_plain 2 (by kernel_rfl) ?_
  dsimp only [List.take, List.drop]
  repeat go_big_quiet_step (fail)
  refine wpQuiet_nil ?_
  clear lf0 lf1 lf2
  refine lex_call (by kernel_rfl) (by kernel_rfl) (fun w11 b K hK => ?_)
  replace hT := hT.on b
  replace hF := hF.on b
  replace zf := zf.on b
  replace rx := rx.on b
  replace zx := zx.on b
  replace ry := ry.on b
  replace zy := zy.on b
  replace BW := Below.step BW b
  clear b
  go_simp
  refine (greatest_as hf false g1 G1.out _).mono ?_
  rintro en w12 ⟨rfl, b⟩
  dsimp only
  refine hK _ _ b ?_
  clear hK K
  replace hT := hT.on b
  replace hF := hF.on b
  replace zf := zf.on b
  replace rx := rx.on b
  replace zx := zx.on b
  replace ry := ry.on b
  replace zy := zy.on b
  replace BW := Below.step BW b
  clear b
  have lf0 : ∀ s : Wd w12, s.w.cell? ⟨w2.heap.size, 0, none⟩ = some (.int .i64 (B : Int)) := fun s => (zf.on s.below).cells.1
  have lf1 : ∀ s : Wd w12, s.w.cell? ⟨w2.heap.size, 1, none⟩ = some (.int .i64 (P : Int)) := fun s => (zf.on s.below).cells.2.1
  have lf2 : ∀ s : Wd w12, s.w.cell? ⟨w2.heap.size, 2, none⟩ = some (.int .i64 (W : Int)) := fun s => (zf.on s.below).cells.2.2.1
  refine lex_plain 1 (by kernel_rfl) ?_
  dsimp only [List.take, List.drop]
  repeat go_big_quiet_step (fail)
  refine wpQuiet_nil ?_
  clear lf0 lf1 lf2
  refine lex_call (by kernel_rfl) (by kernel_rfl) (fun w13 b K hK => ?_)
  replace hT := hT.on b
  replace hF := hF.on b
  replace zf := zf.on b
  replace rx := rx.on b
  replace zx := zx.on b
  replace ry := ry.on b
  replace zy := zy.on b
  replace BW := Below.step BW b
  clear b
  go_simp
  refine (infinite_as hf false i1 I1.out _).mono ?_
  rintro en w14 ⟨rfl, b⟩
  dsimp only
  refine hK _ _ b ?_
  clear hK K
  replace hT := hT.on b
  replace hF := hF.on b
  replace zf := zf.on b
  replace rx := rx.on b
  replace zx := zx.on b
  replace ry := ry.on b
  replace zy := zy.on b
  replace BW := Below.step BW b
  clear b
  have lf0 : ∀ s : Wd w14, s.w.cell? ⟨w2.heap.size, 0, none⟩ = some (.int .i64 (B : Int)) := fun s => (zf.on s.below).cells.1
  have lf1 : ∀ s : Wd w14, s.w.cell? ⟨w2.heap.size, 1, none⟩ = some (.int .i64 (P : Int)) := fun s => (zf.on s.below).cells.2.1
  have lf2 : ∀ s : Wd w14, s.w.cell? ⟨w2.heap.size, 2, none⟩ = some (.int .i64 (W : Int)) := fun s => (zf.on s.below).cells.2.2.1
  refine lex_plain 4 (by kernel_rfl) ?_
  dsimp only [List.take, List.drop]
  repeat go_big_quiet_step (fail)
  refine wpQuiet_nil ?_
  clear lf0 lf1 lf2
  refine lex_call (by kernel_rfl) (by kernel_rfl) (fun w15 b K hK => ?_)
  replace hT := hT.on b
  replace hF := hF.on b
  replace zf := zf.on b
  replace rx := rx.on b
  replace zx := zx.on b
  replace ry := ry.on b
  replace zy := zy.on b
  replace BW := Below.step BW b
  clear b
  go_simp
  refine (greatest_as hf true g2 G2.out _).mono ?_
  rintro en w16 ⟨rfl, b⟩
  dsimp only
  refine hK _ _ b ?_
  clear hK K
  replace hT := hT.on b
  replace hF := hF.on b
  replace zf := zf.on b
  replace rx := rx.on b
  replace zx := zx.on b
  replace ry := ry.on b
  replace zy := zy.on b
  replace BW := Below.step BW b
  clear b
  refine lex_call (by kernel_rfl) (by kernel_rfl) (fun w17 b K hK => ?_)
  replace hT := hT.on b
  replace hF := hF.on b
  replace zf := zf.on b
  replace rx := rx.on b
  replace zx := zx.on b
  replace ry := ry.on b
  replace zy := zy.on b
  replace BW := Below.step BW b
  clear b
  go_simp
  refine (class_as hf g2 2 hg2 K2.out _).mono ?_
  rintro en w18 ⟨rfl, b⟩
  dsimp only
  refine hK _ _ b ?_
  clear hK K
  replace hT := hT.on b
  replace hF := hF.on b
  replace zf := zf.on b
  replace rx := rx.on b
  replace zx := zx.on b
  replace ry := ry.on b
  replace zy := zy.on b
  replace BW := Below.step BW b
  clear b
  have lf0 : ∀ s : Wd w18, s.w.cell? ⟨w2.heap.size, 0, none⟩ = some (.int .i64 (B : Int)) := fun s => (zf.on s.below).cells.1
  have lf1 : ∀ s : Wd w18, s.w.cell? ⟨w2.heap.size, 1, none⟩ = some (.int .i64 (P : Int)) := fun s => (zf.on s.below).cells.2.1
  have lf2 : ∀ s : Wd w18, s.w.cell? ⟨w2.heap.size, 2, none⟩ = some (.int .i64 (W : Int)) := fun s => (zf.on s.below).cells.2.2.1
  refine lex_plain 5 (by kernel_rfl) ?_
  dsimp only [List.take, List.drop]
  repeat go_big_quiet_step (fail)
  refine wpQuiet_nil ?_
  clear lf0 lf1 lf2
  refine lex_call (by kernel_rfl) (by kernel_rfl) (fun w19 b K hK => ?_)
  replace hT := hT.on b
  replace hF := hF.on b
  replace zf := zf.on b
  replace rx := rx.on b
  replace zx := zx.on b
  replace ry := ry.on b
  replace zy := zy.on b
  replace BW := Below.step BW b
  clear b
  go_simp
  refine (infinite_as hf true i2 I2.out _).mono ?_
  rintro en w20 ⟨rfl, b⟩
  dsimp only
  refine hK _ _ b ?_
  clear hK K
  replace hT := hT.on b
  replace hF := hF.on b
  replace zf := zf.on b
  replace rx := rx.on b
  replace zx := zx.on b
  replace ry := ry.on b
  replace zy := zy.on b
  replace BW := Below.step BW b
  clear b
  refine lex_call (by kernel_rfl) (by kernel_rfl) (fun w21 b K hK => ?_)
  replace hT := hT.on b
  replace hF := hF.on b
  replace zf := zf.on b
  replace rx := rx.on b
  replace zx := zx.on b
  replace ry := ry.on b
  replace zy := zy.on b
  replace BW := Below.step BW b
  clear b
  go_simp
  refine (class_as hf i2 3 hi2 K3.out _).mono ?_
  rintro en w22 ⟨rfl, b⟩
  dsimp only
  refine hK _ _ b ?_
  clear hK K
  replace hT := hT.on b
  replace hF := hF.on b
  replace zf := zf.on b
  replace rx := rx.on b
  replace zx := zx.on b
  replace ry := ry.on b
  replace zy := zy.on b
  replace BW := Below.step BW b
  clear b
  have lf0 : ∀ s : Wd w22, s.w.cell? ⟨w2.heap.size, 0, none⟩ = some (.int .i64 (B : Int)) := fun s => (zf.on s.below).cells.1
  have lf1 : ∀ s : Wd w22, s.w.cell? ⟨w2.heap.size, 1, none⟩ = some (.int .i64 (P : Int)) := fun s => (zf.on s.below).cells.2.1
  have lf2 : ∀ s : Wd w22, s.w.cell? ⟨w2.heap.size, 2, none⟩ = some (.int .i64 (W : Int)) := fun s => (zf.on s.below).cells.2.2.1
  refine lex_plain 5 (by kernel_rfl) ?_
  dsimp only [List.take, List.drop]
  repeat go_big_quiet_step (fail)
  refine wpQuiet_nil ?_
  clear lf0 lf1 lf2
  refine lex_call (by kernel_rfl) (by kernel_rfl) (fun w23 b K hK => ?_)
  replace hT := hT.on b
  replace hF := hF.on b
  replace zf := zf.on b
  replace rx := rx.on b
  replace zx := zx.on b
  replace ry := ry.on b
  replace zy := zy.on b
  replace BW := Below.step BW b
  clear b
  go_simp
  refine (fnone_as hf n1 N1.out _).mono ?_
  rintro en w24 ⟨rfl, b⟩
  dsimp only
  refine hK _ _ b ?_
  clear hK K
  replace hT := hT.on b
  replace hF := hF.on b
  replace zf := zf.on b
  replace rx := rx.on b
  replace zx := zx.on b
  replace ry := ry.on b
  replace zy := zy.on b
  replace BW := Below.step BW b
  clear b
  refine lex_call (by kernel_rfl) (by kernel_rfl) (fun w25 b K hK => ?_)
  replace hT := hT.on b
  replace hF := hF.on b
  replace zf := zf.on b
  replace rx := rx.on b
  replace zx := zx.on b
  replace ry := ry.on b
  replace zy := zy.on b
  replace BW := Below.step BW b
  clear b
  go_simp
  refine (class_as hf n1 4 hn1 K4.out _).mono ?_
  rintro en w26 ⟨rfl, b⟩
  dsimp only
  refine hK _ _ b ?_
  clear hK K
  replace hT := hT.on b
  replace hF := hF.on b
  replace zf := zf.on b
  replace rx := rx.on b
  replace zx := zx.on b
  replace ry := ry.on b
  replace zy := zy.on b
  replace BW := Below.step BW b
  clear b
  have lf0 : ∀ s : Wd w26, s.w.cell? ⟨w2.heap.size, 0, none⟩ = some (.int .i64 (B : Int)) := fun s => (zf.on s.below).cells.1
  have lf1 : ∀ s : Wd w26, s.w.cell? ⟨w2.heap.size, 1, none⟩ = some (.int .i64 (P : Int)) := fun s => (zf.on s.below).cells.2.1
  have lf2 : ∀ s : Wd w26, s.w.cell? ⟨w2.heap.size, 2, none⟩ = some (.int .i64 (W : Int)) := fun s => (zf.on s.below).cells.2.2.1
  refine lex_plain 2 (by kernel_rfl) ?_
  dsimp only [List.take, List.drop]
  repeat go_big_quiet_step (fail)
  refine wpQuiet_nil ?_
  clear lf0 lf1 lf2
  refine lex_nil (fun w27 b => ?_)
  replace hT := hT.on b
  replace hF := hF.on b
  replace zf := zf.on b
  replace rx := rx.on b
  replace zx := zx.on b
  replace ry := ry.on b
  replace zy := zy.on b
  replace BW := Below.step BW b
  clear b
  dsimp only [NoPanic]
  obtain ⟨zfc0, zfc1, zfc2, zff0, zff1, zff2, zfl⟩ := zf.cells
  obtain ⟨zxc0, zxc1, zxc2, zxf0, zxf1, zxf2, zxl⟩ := zx.cells
  obtain ⟨zyc0, zyc1, zyc2, zyf0, zyf1, zyf2, zyl⟩ := zy.cells
  go_wp2_with fail
  go_ret
  exact ⟨rfl, BW⟩
set_option maxHeartbeats 4000000 in
set_option maxRecDepth 100000 in
theorem order_none3 {B P W M E H : Nat} {low : Int} (hf : Fm B P W M E H low) (ka kb x y : Nat) (ha : ka < 18446744073709551616) (hb : kb < 18446744073709551616) (hx : ka % H = x) (hy : kb % H = y) (hEx : x / M % (E + 1) ≠ E) (hEy : y / M % (E + 1) = E) {w : World} (hT : Tab w) (hF : Frm w) :
    Calls Tryd.prog 6 #[.int .i64 (B : Int), .int .u64 (ka : Int), .int .u64 (kb : Int)] w fun e w' => e = .returned (.bool true) ∧ Below w.heap.size w w' := by
  obtain ⟨b1, b2, b3, b4, b5, b6, b7, b8, b9, b10, b11, b12, b13, b14, b15⟩ := hf.bd
  have hH : 0 < H := by omega
  have hxH : x < H := by rw [← hx]; exact Nat.mod_lt _ hH
  have hyH : y < H := by rw [← hy]; exact Nat.mod_lt _ hH
  have hx2 : x < 18446744073709551616 := by omega
  have hy2 : y < 18446744073709551616 := by omega
  have HN : Hid (sgn H true 0 = H) := Lib.hid (by unfold sgn; simp)
  have q1 : (ka : Int) % (H : Int) = (x : Int) := by rw [← Int.natCast_emod, hx]
  have q2 : (kb : Int) % (H : Int) = (y : Int) := by rw [← Int.natCast_emod, hy]
  have q1' : (ka : Int).tmod (H : Int) = (x : Int) := by rw [Int.tmod_eq_emod_of_nonneg (by omega)]; exact q1
  have q2' : (kb : Int).tmod (H : Int) = (y : Int) := by rw [Int.tmod_eq_emod_of_nonneg (by omega)]; exact q2
  obtain ⟨g1, i1, g2, i2, n1, eg1, ei1, eg2, ei2, en1, k2, k3, k4, hgi, hi1, hi2, hg2, hn1⟩ := fm_bits hf
  have G1 := Lib.hid eg1
  have I1 := Lib.hid ei1
  have G2 := Lib.hid eg2
  have I2 := Lib.hid ei2
  have N1 := Lib.hid en1
  have K2 := Lib.hid k2
  have K3 := Lib.hid k3
  have K4 := Lib.hid k4
  have q3 : IntKind.u64.wrap ((g1 : Int) + 1) = (i1 : Int) := by rw [show (g1 : Int) + 1 = ((i1 : Nat) : Int) by omega]; exact wrap64_nat i1 (by omega)
  have q4 : ((i1 : Int) != (i1 : Int)) = false := by simp
  clear eg1 ei1 eg2 ei2 en1 k2 k3 k4
  obtain ⟨xn, xx, xe, hdx⟩ : ∃ (n : Bool) (x' : Nat) (e : Int), D.pl ⟨decide (x / H % 2 = 1), valN M E x, valP M E low x⟩ = ⟨n, x', e⟩ := ⟨_, _, _, rfl⟩
  have HX : Hid (valS M E H low x = (⟨xn, xx, xe⟩, 0)) := by unfold valS; rw [if_pos (by omega), if_neg hEx, hdx]; exact Lib.hid rfl
  have hmx := (val_may hf x (decide (x / H % 2 = 1))).2
  rw [hdx] at hmx
  have hlx := ((D.may_iff _).1 hmx).1
  simp only at hlx
  obtain ⟨yn, yx, ye, HY, hly⟩ : ∃ (n : Bool) (x' : Nat) (e : Int), Hid (valS M E H low y = (⟨n, x', e⟩, 1)) ∧ blen x' ≤ 4096 := ⟨false, 0, 0, by unfold valS; rw [if_pos (by omega), if_pos hEy]; exact Lib.hid rfl, by rw [blen_zero]; omega⟩
  clear hx hy b1 hEx hEy hdx hmx hgi
  go_enter Tryd.func6, Tryd.ntmps6
  go_wp2_with fail
  refine (awake3_any hT hF).mono ?_
  rintro en w1 ⟨rfl, b⟩
  replace hT := hT.on b
  replace hF := hF.on b
  have BW := b
  clear b
  go_wp2_with fail
  refine (of_fm hf _ hF).mono ?_
  rintro en w2 ⟨rfl, b⟩
  replace hT := hT.on b
  replace hF := hF.on b
  replace BW := Below.step BW b
  clear b
  go_wp2_with fail
  obtain ⟨w3, e_w3⟩ : ∃ w', w2.alloc (.cells #[.int .i64 (B : Int), .int .i64 (P : Int), .int .i64 (W : Int)] 25) = w' := ⟨_, rfl⟩
  have b : Below w2.heap.size w2 w3 := e_w3 ▸ below_lit _ _
  have hs_w3 : w3.heap.size = w2.heap.size + 1 := e_w3 ▸ size_lit w2 _ rfl
  have zf : FB w3 w2.heap.size 25 (B : Int) (P : Int) (W : Int) := e_w3 ▸ Box.made_at w2 rfl 25 (notU_int _) (notU_int _) (notU_int _)
  rw [e_w3]
  clear e_w3
  replace hT := hT.on b
  replace hF := hF.on b
  replace BW := Below.step BW b
  clear b
  refine (nought_as hf true H HN.out _).mono ?_
  rintro en w4 ⟨rfl, b⟩
  replace hT := hT.on b
  replace hF := hF.on b
  replace zf := zf.on b
  replace BW := Below.step BW b
  clear b
  obtain ⟨zfc0, zfc1, zfc2, zff0, zff1, zff2, zfl⟩ := zf.cells
  go_wp2_with fail
  go_region
  clear zfc0 zfc1 zfc2 zff0 zff1 zff2 zfl
  obtain ⟨w5, e_w5⟩ : ∃ w', w4.drew = w' := ⟨_, rfl⟩
  have b : Below w4.heap.size w4 w5 := e_w5 ▸ (Below.refl _ _).drew
  rw [e_w5]
  clear e_w5
  replace hT := hT.on b
  replace hF := hF.on b
  replace zf := zf.on b
  replace BW := Below.step BW b
  clear b
  obtain ⟨zfc0, zfc1, zfc2, zff0, zff1, zff2, zfl⟩ := zf.cells
  go_wp2_with fail
  refine (value_as hf x hx2 hT HX.out).mono ?_
  rintro en w6 ⟨V_rx, v_rx, rfl, rx, b⟩
  clear zfc0 zfc1 zfc2 zff0 zff1 zff2 zfl
  replace hT := hT.on b
  replace hF := hF.on b
  replace zf := zf.on b
  replace BW := Below.step BW b
  clear b
  have lx := res_n_le rx (k := 128) hlx
  obtain ⟨zfc0, zfc1, zfc2, zff0, zff1, zff2, zfl⟩ := zf.cells
  go_wp2_with fail
  clear zfc0 zfc1 zfc2 zff0 zff1 zff2 zfl
  obtain ⟨w7, e_w7⟩ : ∃ w', w6.alloc (dob xn V_rx v_rx v_rx xe 37) = w' := ⟨_, rfl⟩
  have b : Below w6.heap.size w6 w7 := e_w7 ▸ below_lit _ _
  have hs_w7 : w7.heap.size = w6.heap.size + 1 := e_w7 ▸ size_lit w6 _ rfl
  have zx : DB w7 w6.heap.size 37 xn V_rx v_rx v_rx xe := e_w7 ▸ DB.made w6 rfl 37 xn V_rx v_rx v_rx xe
  rw [e_w7]
  clear e_w7
  replace hT := hT.on b
  replace hF := hF.on b
  replace zf := zf.on b
  replace rx := rx.on b
  replace BW := Below.step BW b
  clear b
  refine (value_as hf y hy2 hT HY.out).mono ?_
  rintro en w8 ⟨V_ry, v_ry, rfl, ry, b⟩
  replace hT := hT.on b
  replace hF := hF.on b
  replace zf := zf.on b
  replace rx := rx.on b
  replace zx := zx.on b
  replace BW := Below.step BW b
  clear b
  have ly := res_n_le ry (k := 128) hly
  obtain ⟨zfc0, zfc1, zfc2, zff0, zff1, zff2, zfl⟩ := zf.cells
  obtain ⟨zxc0, zxc1, zxc2, zxf0, zxf1, zxf2, zxl⟩ := zx.cells
  go_wp2_with fail
  clear zfc0 zfc1 zfc2 zff0 zff1 zff2 zfl zxc0 zxc1 zxc2 zxf0 zxf1 zxf2 zxl
  obtain ⟨w9, e_w9⟩ : ∃ w', w8.alloc (dob yn V_ry v_ry v_ry ye 37) = w' := ⟨_, rfl⟩
  have b : Below w8.heap.size w8 w9 := e_w9 ▸ below_lit _ _
  have hs_w9 : w9.heap.size = w8.heap.size + 1 := e_w9 ▸ size_lit w8 _ rfl
  have zy : DB w9 w8.heap.size 37 yn V_ry v_ry v_ry ye := e_w9 ▸ DB.made w8 rfl 37 yn V_ry v_ry v_ry ye
  rw [e_w9]
  clear e_w9
  replace hT := hT.on b
  replace hF := hF.on b
  replace zf := zf.on b
  replace rx := rx.on b
  replace zx := zx.on b
  replace ry := ry.on b
  replace BW := Below.step BW b
  clear b
  try dsimp only [List.append]
  refine region_plan [0, 3, 1, 2, 4, 5, 6, 7, 8, 9, 10, 11, 12, 13, 14, 15, 16, 17, 18, 19, 20, 21, 22, 23, 24, 25, 26] (by kernel_rfl) (by kernel_rfl) (by kernel_rfl) (by kernel_rfl) (by kernel_rfl) ?_
  dsimp only [pick, nth]
  replace hT := hT.on ((Below.refl _ _).drew : Below w9.heap.size w9 w9.drew)
  replace hF := hF.on ((Below.refl _ _).drew : Below w9.heap.size w9 w9.drew)
  replace zf := zf.on ((Below.refl _ _).drew : Below w9.heap.size w9 w9.drew)
  replace rx := rx.on ((Below.refl _ _).drew : Below w9.heap.size w9 w9.drew)
  replace zx := zx.on ((Below.refl _ _).drew : Below w9.heap.size w9 w9.drew)
  replace ry := ry.on ((Below.refl _ _).drew : Below w9.heap.size w9 w9.drew)
  replace zy := zy.on ((Below.refl _ _).drew : Below w9.heap.size w9 w9.drew)
  replace BW := Below.step BW ((Below.refl _ _).drew : Below w9.heap.size w9 w9.drew)
  obtain ⟨w10, e_w10⟩ : ∃ w', w9.drew = w' := ⟨_, rfl⟩
  rw [e_w10] at hT hF zf rx zx ry zy BW ⊢
  clear e_w10
  have lf0 : ∀ s : Wd w10, s.w.cell? ⟨w2.heap.size, 0, none⟩ = some (.int .i64 (B : Int)) := fun s => (zf.on s.below).cells.1
  have lf1 : ∀ s : Wd w10, s.w.cell? ⟨w2.heap.size, 1, none⟩ = some (.int .i64 (P : Int)) := fun s => (zf.on s.below).cells.2.1
  have lf2 : ∀ s : Wd w10, s.w.cell? ⟨w2.heap.size, 2, none⟩ = some (.int .i64 (W : Int)) := fun s => (zf.on s.below).cells.2.2.1
  refine lex_plain 2 (by kernel_rfl) ?_
  dsimp only [List.take, List.drop]
  repeat go_big_quiet_step (fail)
  refine wpQuiet_nil ?_
  clear lf0 lf1 lf2
  refine lex_call (by kernel_rfl) (by kernel_rfl) (fun w11 b K hK => ?_)
  replace hT := hT.on b
  replace hF := hF.on b
  replace zf := zf.on b
  replace rx := rx.on b
  replace zx := zx.on b
  replace ry := ry.on b
  replace zy := zy.on b
  replace BW := Below.step BW b
  clear b
  go_simp
  refine (greatest_as hf false g1 G1.out _).mono ?_
  rintro en w12 ⟨rfl, b⟩
  dsimp only
  refine hK _ _ b ?_
  clear hK K
  replace hT := hT.on b
  replace hF := hF.on b
  replace zf := zf.on b
  replace rx := rx.on b
  replace zx := zx.on b
  replace ry := ry.on b
  replace zy := zy.on b
  replace BW := Below.step BW b
  clear b
  have lf0 : ∀ s : Wd w12, s.w.cell? ⟨w2.heap.size, 0, none⟩ = some (.int .i64 (B : Int)) := fun s => (zf.on s.below).cells.1
  have lf1 : ∀ s : Wd w12, s.w.cell? ⟨w2.heap.size, 1, none⟩ = some (.int .i64 (P : Int)) := fun s => (zf.on s.below).cells.2.1
  have lf2 : ∀ s : Wd w12, s.w.cell? ⟨w2.heap.size, 2, none⟩ = some (.int .i64 (W : Int)) := fun s => (zf.on s.below).cells.2.2.1
  refine lex_plain 1 (by kernel_rfl) ?_
  dsimp only [List.take, List.drop]
  repeat go_big_quiet_step (fail)
  refine wpQuiet_nil ?_
  clear lf0 lf1 lf2
  refine lex_call (by kernel_rfl) (by kernel_rfl) (fun w13 b K hK => ?_)
  replace hT := hT.on b
  replace hF := hF.on b
  replace zf := zf.on b
  replace rx := rx.on b
  replace zx := zx.on b
  replace ry := ry.on b
  replace zy := zy.on b
  replace BW := Below.step BW b
  clear b
  go_simp
  refine (infinite_as hf false i1 I1.out _).mono ?_
  rintro en w14 ⟨rfl, b⟩
  dsimp only
  refine hK _ _ b ?_
  clear hK K
  replace hT := hT.on b
  replace hF := hF.on b
  replace zf := zf.on b
  replace rx := rx.on b
  replace zx := zx.on b
  replace ry := ry.on b
  replace zy := zy.on b
  replace BW := Below.step BW b
  clear b
  have lf0 : ∀ s : Wd w14, s.w.cell? ⟨w2.heap.size, 0, none⟩ = some (.int .i64 (B : Int)) := fun s => (zf.on s.below).cells.1
  have lf1 : ∀ s : Wd w14, s.w.cell? ⟨w2.heap.size, 1, none⟩ = some (.int .i64 (P : Int)) := fun s => (zf.on s.below).cells.2.1
  have lf2 : ∀ s : Wd w14, s.w.cell? ⟨w2.heap.size, 2, none⟩ = some (.int .i64 (W : Int)) := fun s => (zf.on s.below).cells.2.2.1
  refine lex_plain 4 (by kernel_rfl) ?_
  dsimp only [List.take, List.drop]
  repeat go_big_quiet_step (fail)
  refine wpQuiet_nil ?_
  clear lf0 lf1 lf2
  refine lex_call (by kernel_rfl) (by kernel_rfl) (fun w15 b K hK => ?_)
  replace hT := hT.on b
  replace hF := hF.on b
  replace zf := zf.on b
  replace rx := rx.on b
  replace zx := zx.on b
  replace ry := ry.on b
  replace zy := zy.on b
  replace BW := Below.step BW b
  clear b
  go_simp
  refine (greatest_as hf true g2 G2.out _).mono ?_
  rintro en w16 ⟨rfl, b⟩
  dsimp only
  refine hK _ _ b ?_
  clear hK K
  replace hT := hT.on b
  replace hF := hF.on b
  replace zf := zf.on b
  replace rx := rx.on b
  replace zx := zx.on b
  replace ry := ry.on b
  replace zy := zy.on b
  replace BW := Below.step BW b
  clear b
  refine lex_call (by kernel_rfl) (by kernel_rfl) (fun w17 b K hK => ?_)
  replace hT := hT.on b
  replace hF := hF.on b
  replace zf := zf.on b
  replace rx := rx.on b
  replace zx := zx.on b
  replace ry := ry.on b
  replace zy := zy.on b
  replace BW := Below.step BW b
  clear b
  go_simp
  refine (class_as hf g2 2 hg2 K2.out _).mono ?_
  rintro en w18 ⟨rfl, b⟩
  dsimp only
  refine hK _ _ b ?_
  clear hK K
  replace hT := hT.on b
  replace hF := hF.on b
  replace zf := zf.on b
  replace rx := rx.on b
  replace zx := zx.on b
  replace ry := ry.on b
  replace zy := zy.on b
  replace BW := Below.step BW b
  clear b
  have lf0 : ∀ s : Wd w18, s.w.cell? ⟨w2.heap.size, 0, none⟩ = some (.int .i64 (B : Int)) := fun s => (zf.on s.below).cells.1
  have lf1 : ∀ s : Wd w18, s.w.cell? ⟨w2.heap.size, 1, none⟩ = some (.int .i64 (P : Int)) := fun s => (zf.on s.below).cells.2.1
  have lf2 : ∀ s : Wd w18, s.w.cell? ⟨w2.heap.size, 2, none⟩ = some (.int .i64 (W : Int)) := fun s => (zf.on s.below).cells.2.2.1
  refine lex_plain 5 (by kernel_rfl) ?_
  dsimp only [List.take, List.drop]
  repeat go_big_quiet_step (fail)
  refine wpQuiet_nil ?_
  clear lf0 lf1 lf2
  refine lex_call (by kernel_rfl) (by kernel_rfl) (fun w19 b K hK => ?_)
  replace hT := hT.on b
  replace hF := hF.on b
  replace zf := zf.on b
  replace rx := rx.on b
  replace zx := zx.on b
  replace ry := ry.on b
  replace zy := zy.on b
  replace BW := Below.step BW b
  clear b
  go_simp
  refine (infinite_as hf true i2 I2.out _).mono ?_
  rintro en w20 ⟨rfl, b⟩
  dsimp only
  refine hK _ _ b ?_
  clear hK K
  replace hT := hT.on b
  replace hF := hF.on b
  replace zf := zf.on b
  replace rx := rx.on b
  replace zx := zx.on b
  replace ry := ry.on b
  replace zy := zy.on b
  replace BW := Below.step BW b
  clear b
  refine lex_call (by kernel_rfl) (by kernel_rfl) (fun w21 b K hK => ?_)
  replace hT := hT.on b
  replace hF := hF.on b
  replace zf := zf.on b
  replace rx := rx.on b
  replace zx := zx.on b
  replace ry := ry.on b
  replace zy := zy.on b
  replace BW := Below.step BW b
  clear b
  go_simp
  refine (class_as hf i2 3 hi2 K3.out _).mono ?_
  rintro en w22 ⟨rfl, b⟩
  dsimp only
  refine hK _ _ b ?_
  clear hK K
  replace hT := hT.on b
  replace hF := hF.on b
  replace zf := zf.on b
  replace rx := rx.on b
  replace zx := zx.on b
  replace ry := ry.on b
  replace zy := zy.on b
  replace BW := Below.step BW b
  clear b
  have lf0 : ∀ s : Wd w22, s.w.cell? ⟨w2.heap.size, 0, none⟩ = some (.int .i64 (B : Int)) := fun s => (zf.on s.below).cells.1
  have lf1 : ∀ s : Wd w22, s.w.cell? ⟨w2.heap.size, 1, none⟩ = some (.int .i64 (P : Int)) := fun s => (zf.on s.below).cells.2.1
  have lf2 : ∀ s : Wd w22, s.w.cell? ⟨w2.heap.size, 2, none⟩ = some (.int .i64 (W : Int)) := fun s => (zf.on s.below).cells.2.2.1
  refine lex_plain 5 (by kernel_rfl) ?_
  dsimp only [List.take, List.drop]
  repeat go_big_quiet_step (fail)
  refine wpQuiet_nil ?_
  clear lf0 lf1 lf2
  refine lex_call (by kernel_rfl) (by kernel_rfl) (fun w23 b K hK => ?_)
  replace hT := hT.on b
  replace hF := hF.on b
  replace zf := zf.on b
  replace rx := rx.on b
  replace zx := zx.on b
  replace ry := ry.on b
  replace zy := zy.on b
  replace BW := Below.step BW b
  clear b
  go_simp
  refine (fnone_as hf n1 N1.out _).mono ?_
  rintro en w24 ⟨rfl, b⟩
  dsimp only
  refine hK _ _ b ?_
  clear hK K
  replace hT := hT.on b
  replace hF := hF.on b
  replace zf := zf.on b
  replace rx := rx.on b
  replace zx := zx.on b
  replace ry := ry.on b
  replace zy := zy.on b
  replace BW := Below.step BW b
  clear b
  refine lex_call (by kernel_rfl) (by kernel_rfl) (fun w25 b K hK => ?_)
  replace hT := hT.on b
  replace hF := hF.on b
  replace zf := zf.on b
  replace rx := rx.on b
  replace zx := zx.on b
  replace ry := ry.on b
  replace zy := zy.on b
  replace BW := Below.step BW b
  clear b
  go_simp
  refine (class_as hf n1 4 hn1 K4.out _).mono ?_
  rintro en w26 ⟨rfl, b⟩
  dsimp only
  refine hK _ _ b ?_
  clear hK K
  replace hT := hT.on b
  replace hF := hF.on b
  replace zf := zf.on b
  replace rx := rx.on b
  replace zx := zx.on b
  replace ry := ry.on b
  replace zy := zy.on b
  replace BW := Below.step BW b
  clear b
  have lf0 : ∀ s : Wd w26, s.w.cell? ⟨w2.heap.size, 0, none⟩ = some (.int .i64 (B : Int)) := fun s => (zf.on s.below).cells.1
  have lf1 : ∀ s : Wd w26, s.w.cell? ⟨w2.heap.size, 1, none⟩ = some (.int .i64 (P : Int)) := fun s => (zf.on s.below).cells.2.1
  have lf2 : ∀ s : Wd w26, s.w.cell? ⟨w2.heap.size, 2, none⟩ = some (.int .i64 (W : Int)) := fun s => (zf.on s.below).cells.2.2.1
  refine lex_plain 2 (by kernel_rfl) ?_
  dsimp only [List.take, List.drop]
  repeat go_big_quiet_step (fail)
  refine wpQuiet_nil ?_
  clear lf0 lf1 lf2
  refine lex_nil (fun w27 b => ?_)
  replace hT := hT.on b
  replace hF := hF.on b
  replace zf := zf.on b
  replace rx := rx.on b
  replace zx := zx.on b
  replace ry := ry.on b
  replace zy := zy.on b
  replace BW := Below.step BW b
  clear b
  dsimp only [NoPanic]
  obtain ⟨zfc0, zfc1, zfc2, zff0, zff1, zff2, zfl⟩ := zf.cells
  obtain ⟨zxc0, zxc1, zxc2, zxf0, zxf1, zxf2, zxl⟩ := zx.cells
  obtain ⟨zyc0, zyc1, zyc2, zyf0, zyf1, zyf2, zyl⟩ := zy.cells
  go_wp2_with fail
  go_ret
  exact ⟨rfl, BW⟩
set_option maxHeartbeats 4000000 in
set_option maxRecDepth 100000 in
theorem order_both {B P W M E H : Nat} {low : Int} (hf : Fm B P W M E H low) (ka kb x y : Nat) (ha : ka < 18446744073709551616) (hb : kb < 18446744073709551616) (hx : ka % H = x) (hy : kb % H = y) (hEx : x / M % (E + 1) ≠ E) (hEy : y / M % (E + 1) ≠ E) {w : World} (hT : Tab w) (hF : Frm w) :
    Calls Tryd.prog 6 #[.int .i64 (B : Int), .int .u64 (ka : Int), .int .u64 (kb : Int)] w fun e w' => e = .returned (.bool true) ∧ Below w.heap.size w w' := by
  obtain ⟨b1, b2, b3, b4, b5, b6, b7, b8, b9, b10, b11, b12, b13, b14, b15⟩ := hf.bd
  have hH : 0 < H := by omega
  have hxH : x < H := by rw [← hx]; exact Nat.mod_lt _ hH
  have hyH : y < H := by rw [← hy]; exact Nat.mod_lt _ hH
  have hx2 : x < 18446744073709551616 := by omega
  have hy2 : y < 18446744073709551616 := by omega
  have HN : Hid (sgn H true 0 = H) := Lib.hid (by unfold sgn; simp)
  have q1 : (ka : Int) % (H : Int) = (x : Int) := by rw [← Int.natCast_emod, hx]
  have q2 : (kb : Int) % (H : Int) = (y : Int) := by rw [← Int.natCast_emod, hy]
  have q1' : (ka : Int).tmod (H : Int) = (x : Int) := by rw [Int.tmod_eq_emod_of_nonneg (by omega)]; exact q1
  have q2' : (kb : Int).tmod (H : Int) = (y : Int) := by rw [Int.tmod_eq_emod_of_nonneg (by omega)]; exact q2
  obtain ⟨g1, i1, g2, i2, n1, eg1, ei1, eg2, ei2, en1, k2, k3, k4, hgi, hi1, hi2, hg2, hn1⟩ := fm_bits hf
  have G1 := Lib.hid eg1
  have I1 := Lib.hid ei1
  have G2 := Lib.hid eg2
  have I2 := Lib.hid ei2
  have N1 := Lib.hid en1
  have K2 := Lib.hid k2
  have K3 := Lib.hid k3
  have K4 := Lib.hid k4
  have q3 : IntKind.u64.wrap ((g1 : Int) + 1) = (i1 : Int) := by rw [show (g1 : Int) + 1 = ((i1 : Nat) : Int) by omega]; exact wrap64_nat i1 (by omega)
  have q4 : ((i1 : Int) != (i1 : Int)) = false := by simp
  clear eg1 ei1 eg2 ei2 en1 k2 k3 k4
  obtain ⟨xn, xx, xe, hdx⟩ : ∃ (n : Bool) (x' : Nat) (e : Int), D.pl ⟨decide (x / H % 2 = 1), valN M E x, valP M E low x⟩ = ⟨n, x', e⟩ := ⟨_, _, _, rfl⟩
  have HX : Hid (valS M E H low x = (⟨xn, xx, xe⟩, 0)) := by unfold valS; rw [if_pos (by omega), if_neg hEx, hdx]; exact Lib.hid rfl
  have hmx := (val_may hf x (decide (x / H % 2 = 1))).2
  rw [hdx] at hmx
  have hlx := ((D.may_iff _).1 hmx).1
  simp only at hlx
  obtain ⟨yn, yx, ye, hdy⟩ : ∃ (n : Bool) (x' : Nat) (e : Int), D.pl ⟨decide (y / H % 2 = 1), valN M E y, valP M E low y⟩ = ⟨n, x', e⟩ := ⟨_, _, _, rfl⟩
  have HY : Hid (valS M E H low y = (⟨yn, yx, ye⟩, 0)) := by unfold valS; rw [if_pos (by omega), if_neg hEy, hdy]; exact Lib.hid rfl
  have hmy := (val_may hf y (decide (y / H % 2 = 1))).2
  rw [hdy] at hmy
  have hly := ((D.may_iff _).1 hmy).1
  simp only at hly
  obtain ⟨q, hq⟩ : ∃ q : Int, cmpI (valV M E low x : Int) (valV M E low y : Int) = q := ⟨_, rfl⟩
  have HQ : Hid (cmpS ⟨xn, xx, xe⟩ ⟨yn, yx, ye⟩ = (q, 0)) := by rw [cmpS_ok hmx hmy, ← hdx, ← hdy, val_vl hf x hxH, val_vl hf y hyH, hq]; exact Lib.hid rfl
  obtain ⟨c1, c2⟩ := cmp_val hf x y (finite_lt hf x hxH hEx) (finite_lt hf y hyH hEy)
  rw [hq] at c1 c2
  obtain ⟨t1, ht1⟩ : ∃ t1, decide (x < y) = t1 := ⟨_, rfl⟩
  obtain ⟨t2, ht2⟩ : ∃ t2, (x == y) = t2 := ⟨_, rfl⟩
  have e1 : decide (q < 0) = t1 := c1.trans ht1
  have e2 : decide ((x : Int) < (y : Int)) = t1 := by rw [← ht1]; exact decide_eq_decide.2 (by omega)
  have e3 : (q == 0) = t2 := c2.trans ht2
  have e4 : ((x : Int) == (y : Int)) = t2 := by rw [← ht2, Bool.eq_iff_iff]; simp; omega
  clear hq c1 c2
  clear hx hy b1 hEx hEy hdx hmx hdy hmy hgi
  go_enter Tryd.func6, Tryd.ntmps6
  go_wp2_with fail
  refine (awake3_any hT hF).mono ?_
  rintro en w1 ⟨rfl, b⟩
  replace hT := hT.on b
  replace hF := hF.on b
  have BW := b
  clear b
  go_wp2_with fail
  refine (of_fm hf _ hF).mono ?_
  rintro en w2 ⟨rfl, b⟩
  replace hT := hT.on b
  replace hF := hF.on b
  replace BW := Below.step BW b
  clear b
  go_wp2_with fail
  obtain ⟨w3, e_w3⟩ : ∃ w', w2.alloc (.cells #[.int .i64 (B : Int), .int .i64 (P : Int), .int .i64 (W : Int)] 25) = w' := ⟨_, rfl⟩
  have b : Below w2.heap.size w2 w3 := e_w3 ▸ below_lit _ _
  have hs_w3 : w3.heap.size = w2.heap.size + 1 := e_w3 ▸ size_lit w2 _ rfl
  have zf : FB w3 w2.heap.size 25 (B : Int) (P : Int) (W : Int) := e_w3 ▸ Box.made_at w2 rfl 25 (notU_int _) (notU_int _) (notU_int _)
  rw [e_w3]
  clear e_w3
  replace hT := hT.on b
  replace hF := hF.on b
  replace BW := Below.step BW b
  clear b
  refine (nought_as hf true H HN.out _).mono ?_
  rintro en w4 ⟨rfl, b⟩
  replace hT := hT.on b
  replace hF := hF.on b
  replace zf := zf.on b
  replace BW := Below.step BW b
  clear b
  obtain ⟨zfc0, zfc1, zfc2, zff0, zff1, zff2, zfl⟩ := zf.cells
  go_wp2_with fail
  go_region
  clear zfc0 zfc1 zfc2 zff0 zff1 zff2 zfl
  obtain ⟨w5, e_w5⟩ : ∃ w', w4.drew = w' := ⟨_, rfl⟩
  have b : Below w4.heap.size w4 w5 := e_w5 ▸ (Below.refl _ _).drew
  rw [e_w5]
  clear e_w5
  replace hT := hT.on b
  replace hF := hF.on b
  replace zf := zf.on b
  replace BW := Below.step BW b
  clear b
  obtain ⟨zfc0, zfc1, zfc2, zff0, zff1, zff2, zfl⟩ := zf.cells
  go_wp2_with fail
  refine (value_as hf x hx2 hT HX.out).mono ?_
  rintro en w6 ⟨V_rx, v_rx, rfl, rx, b⟩
  clear zfc0 zfc1 zfc2 zff0 zff1 zff2 zfl
  replace hT := hT.on b
  replace hF := hF.on b
  replace zf := zf.on b
  replace BW := Below.step BW b
  clear b
  have lx := res_n_le rx (k := 128) hlx
  obtain ⟨zfc0, zfc1, zfc2, zff0, zff1, zff2, zfl⟩ := zf.cells
  go_wp2_with fail
  clear zfc0 zfc1 zfc2 zff0 zff1 zff2 zfl
  obtain ⟨w7, e_w7⟩ : ∃ w', w6.alloc (dob xn V_rx v_rx v_rx xe 37) = w' := ⟨_, rfl⟩
  have b : Below w6.heap.size w6 w7 := e_w7 ▸ below_lit _ _
  have hs_w7 : w7.heap.size = w6.heap.size + 1 := e_w7 ▸ size_lit w6 _ rfl
  have zx : DB w7 w6.heap.size 37 xn V_rx v_rx v_rx xe := e_w7 ▸ DB.made w6 rfl 37 xn V_rx v_rx v_rx xe
  rw [e_w7]
  clear e_w7
  replace hT := hT.on b
  replace hF := hF.on b
  replace zf := zf.on b
  replace rx := rx.on b
  replace BW := Below.step BW b
  clear b
  refine (value_as hf y hy2 hT HY.out).mono ?_
  rintro en w8 ⟨V_ry, v_ry, rfl, ry, b⟩
  replace hT := hT.on b
  replace hF := hF.on b
  replace zf := zf.on b
  replace rx := rx.on b
  replace zx := zx.on b
  replace BW := Below.step BW b
  clear b
  have ly := res_n_le ry (k := 128) hly
  obtain ⟨zfc0, zfc1, zfc2, zff0, zff1, zff2, zfl⟩ := zf.cells
  obtain ⟨zxc0, zxc1, zxc2, zxf0, zxf1, zxf2, zxl⟩ := zx.cells
  go_wp2_with fail
  clear zfc0 zfc1 zfc2 zff0 zff1 zff2 zfl zxc0 zxc1 zxc2 zxf0 zxf1 zxf2 zxl
  obtain ⟨w9, e_w9⟩ : ∃ w', w8.alloc (dob yn V_ry v_ry v_ry ye 37) = w' := ⟨_, rfl⟩
  have b : Below w8.heap.size w8 w9 := e_w9 ▸ below_lit _ _
  have hs_w9 : w9.heap.size = w8.heap.size + 1 := e_w9 ▸ size_lit w8 _ rfl
  have zy : DB w9 w8.heap.size 37 yn V_ry v_ry v_ry ye := e_w9 ▸ DB.made w8 rfl 37 yn V_ry v_ry v_ry ye
  rw [e_w9]
  clear e_w9
  replace hT := hT.on b
  replace hF := hF.on b
  replace zf := zf.on b
  replace rx := rx.on b
  replace zx := zx.on b
  replace ry := ry.on b
  replace BW := Below.step BW b
  clear b
  try dsimp only [List.append]
  refine region_plan [0, 3, 1, 2, 4, 5, 6, 7, 8, 9, 10, 11, 12, 13, 14, 15, 16, 17, 18, 19, 20, 21, 22, 23, 24, 25, 26] (by kernel_rfl) (by kernel_rfl) (by kernel_rfl) (by kernel_rfl) (by kernel_rfl) ?_
  dsimp only [pick, nth]
  replace hT := hT.on ((Below.refl _ _).drew : Below w9.heap.size w9 w9.drew)
  replace hF := hF.on ((Below.refl _ _).drew : Below w9.heap.size w9 w9.drew)
  replace zf := zf.on ((Below.refl _ _).drew : Below w9.heap.size w9 w9.drew)
  replace rx := rx.on ((Below.refl _ _).drew : Below w9.heap.size w9 w9.drew)
  replace zx := zx.on ((Below.refl _ _).drew : Below w9.heap.size w9 w9.drew)
  replace ry := ry.on ((Below.refl _ _).drew : Below w9.heap.size w9 w9.drew)
  replace zy := zy.on ((Below.refl _ _).drew : Below w9.heap.size w9 w9.drew)
  replace BW := Below.step BW ((Below.refl _ _).drew : Below w9.heap.size w9 w9.drew)
  obtain ⟨w10, e_w10⟩ : ∃ w', w9.drew = w' := ⟨_, rfl⟩
  rw [e_w10] at hT hF zf rx zx ry zy BW ⊢
  clear e_w10
  have lf0 : ∀ s : Wd w10, s.w.cell? ⟨w2.heap.size, 0, none⟩ = some (.int .i64 (B : Int)) := fun s => (zf.on s.below).cells.1
  have lf1 : ∀ s : Wd w10, s.w.cell? ⟨w2.heap.size, 1, none⟩ = some (.int .i64 (P : Int)) := fun s => (zf.on s.below).cells.2.1
  have lf2 : ∀ s : Wd w10, s.w.cell? ⟨w2.heap.size, 2, none⟩ = some (.int .i64 (W : Int)) := fun s => (zf.on s.below).cells.2.2.1
  refine lex_plain 2 (by kernel_rfl) ?_
  dsimp only [List.take, List.drop]
  repeat go_big_quiet_step (fail)
  refine wpQuiet_nil ?_
  clear lf0 lf1 lf2
  refine lex_call (by kernel_rfl) (by kernel_rfl) (fun w11 b K hK => ?_)
  replace hT := hT.on b
  replace hF := hF.on b
  replace zf := zf.on b
  replace rx := rx.on b
  replace zx := zx.on b
  replace ry := ry.on b
  replace zy := zy.on b
  replace BW := Below.step BW b
  clear b
  go_simp
  refine (greatest_as hf false g1 G1.out _).mono ?_
  rintro en w12 ⟨rfl, b⟩
  dsimp only
  refine hK _ _ b ?_
  clear hK K
  replace hT := hT.on b
  replace hF := hF.on b
  replace zf := zf.on b
  replace rx := rx.on b
  replace zx := zx.on b
  replace ry := ry.on b
  replace zy := zy.on b
  replace BW := Below.step BW b
  clear b
  have lf0 : ∀ s : Wd w12, s.w.cell? ⟨w2.heap.size, 0, none⟩ = some (.int .i64 (B : Int)) := fun s => (zf.on s.below).cells.1
  have lf1 : ∀ s : Wd w12, s.w.cell? ⟨w2.heap.size, 1, none⟩ = some (.int .i64 (P : Int)) := fun s => (zf.on s.below).cells.2.1
  have lf2 : ∀ s : Wd w12, s.w.cell? ⟨w2.heap.size, 2, none⟩ = some (.int .i64 (W : Int)) := fun s => (zf.on s.below).cells.2.2.1
  refine lex_plain 1 (by kernel_rfl) ?_
  dsimp only [List.take, List.drop]
  repeat go_big_quiet_step (fail)
  refine wpQuiet_nil ?_
  clear lf0 lf1 lf2
  refine lex_call (by kernel_rfl) (by kernel_rfl) (fun w13 b K hK => ?_)
  replace hT := hT.on b
  replace hF := hF.on b
  replace zf := zf.on b
  replace rx := rx.on b
  replace zx := zx.on b
  replace ry := ry.on b
  replace zy := zy.on b
  replace BW := Below.step BW b
  clear b
  go_simp
  refine (infinite_as hf false i1 I1.out _).mono ?_
  rintro en w14 ⟨rfl, b⟩
  dsimp only
  refine hK _ _ b ?_
  clear hK K
  replace hT := hT.on b
  replace hF := hF.on b
  replace zf := zf.on b
  replace rx := rx.on b
  replace zx := zx.on b
  replace ry := ry.on b
  replace zy := zy.on b
  replace BW := Below.step BW b
  clear b
  have lf0 : ∀ s : Wd w14, s.w.cell? ⟨w2.heap.size, 0, none⟩ = some (.int .i64 (B : Int)) := fun s => (zf.on s.below).cells.1
  have lf1 : ∀ s : Wd w14, s.w.cell? ⟨w2.heap.size, 1, none⟩ = some (.int .i64 (P : Int)) := fun s => (zf.on s.below).cells.2.1
  have lf2 : ∀ s : Wd w14, s.w.cell? ⟨w2.heap.size, 2, none⟩ = some (.int .i64 (W : Int)) := fun s => (zf.on s.below).cells.2.2.1
  refine lex_plain 4 (by kernel_rfl) ?_
  dsimp only [List.take, List.drop]
  repeat go_big_quiet_step (fail)
  refine wpQuiet_nil ?_
  clear lf0 lf1 lf2
  refine lex_call (by kernel_rfl) (by kernel_rfl) (fun w15 b K hK => ?_)
  replace hT := hT.on b
  replace hF := hF.on b
  replace zf := zf.on b
  replace rx := rx.on b
  replace zx := zx.on b
  replace ry := ry.on b
  replace zy := zy.on b
  replace BW := Below.step BW b
  clear b
  go_simp
  refine (greatest_as hf true g2 G2.out _).mono ?_
  rintro en w16 ⟨rfl, b⟩
  dsimp only
  refine hK _ _ b ?_
  clear hK K
  replace hT := hT.on b
  replace hF := hF.on b
  replace zf := zf.on b
  replace rx := rx.on b
  replace zx := zx.on b
  replace ry := ry.on b
  replace zy := zy.on b
  replace BW := Below.step BW b
  clear b
  refine lex_call (by kernel_rfl) (by kernel_rfl) (fun w17 b K hK => ?_)
  replace hT := hT.on b
  replace hF := hF.on b
  replace zf := zf.on b
  replace rx := rx.on b
  replace zx := zx.on b
  replace ry := ry.on b
  replace zy := zy.on b
  replace BW := Below.step BW b
  clear b
  go_simp
  refine (class_as hf g2 2 hg2 K2.out _).mono ?_
  rintro en w18 ⟨rfl, b⟩
  dsimp only
  refine hK _ _ b ?_
  clear hK K
  replace hT := hT.on b
  replace hF := hF.on b
  replace zf := zf.on b
  replace rx := rx.on b
  replace zx := zx.on b
  replace ry := ry.on b
  replace zy := zy.on b
  replace BW := Below.step BW b
  clear b
  have lf0 : ∀ s : Wd w18, s.w.cell? ⟨w2.heap.size, 0, none⟩ = some (.int .i64 (B : Int)) := fun s => (zf.on s.below).cells.1
  have lf1 : ∀ s : Wd w18, s.w.cell? ⟨w2.heap.size, 1, none⟩ = some (.int .i64 (P : Int)) := fun s => (zf.on s.below).cells.2.1
  have lf2 : ∀ s : Wd w18, s.w.cell? ⟨w2.heap.size, 2, none⟩ = some (.int .i64 (W : Int)) := fun s => (zf.on s.below).cells.2.2.1
  refine lex_plain 5 (by kernel_rfl) ?_
  dsimp only [List.take, List.drop]
  repeat go_big_quiet_step (fail)
  refine wpQuiet_nil ?_
  clear lf0 lf1 lf2
  refine lex_call (by kernel_rfl) (by kernel_rfl) (fun w19 b K hK => ?_)
  replace hT := hT.on b
  replace hF := hF.on b
  replace zf := zf.on b
  replace rx := rx.on b
  replace zx := zx.on b
  replace ry := ry.on b
  replace zy := zy.on b
  replace BW := Below.step BW b
  clear b
  go_simp
  refine (infinite_as hf true i2 I2.out _).mono ?_
  rintro en w20 ⟨rfl, b⟩
  dsimp only
  refine hK _ _ b ?_
  clear hK K
  replace hT := hT.on b
  replace hF := hF.on b
  replace zf := zf.on b
  replace rx := rx.on b
  replace zx := zx.on b
  replace ry := ry.on b
  replace zy := zy.on b
  replace BW := Below.step BW b
  clear b
  refine lex_call (by kernel_rfl) (by kernel_rfl) (fun w21 b K hK => ?_)
  replace hT := hT.on b
  replace hF := hF.on b
  replace zf := zf.on b
  replace rx := rx.on b
  replace zx := zx.on b
  replace ry := ry.on b
  replace zy := zy.on b
  replace BW := Below.step BW b
  clear b
  go_simp
  refine (class_as hf i2 3 hi2 K3.out _).mono ?_
  rintro en w22 ⟨rfl, b⟩
  dsimp only
  refine hK _ _ b ?_
  clear hK K
  replace hT := hT.on b
  replace hF := hF.on b
  replace zf := zf.on b
  replace rx := rx.on b
  replace zx := zx.on b
  replace ry := ry.on b
  replace zy := zy.on b
  replace BW := Below.step BW b
  clear b
  have lf0 : ∀ s : Wd w22, s.w.cell? ⟨w2.heap.size, 0, none⟩ = some (.int .i64 (B : Int)) := fun s => (zf.on s.below).cells.1
  have lf1 : ∀ s : Wd w22, s.w.cell? ⟨w2.heap.size, 1, none⟩ = some (.int .i64 (P : Int)) := fun s => (zf.on s.below).cells.2.1
  have lf2 : ∀ s : Wd w22, s.w.cell? ⟨w2.heap.size, 2, none⟩ = some (.int .i64 (W : Int)) := fun s => (zf.on s.below).cells.2.2.1
  refine lex_plain 5 (by kernel_rfl) ?_
  dsimp only [List.take, List.drop]
  repeat go_big_quiet_step (fail)
  refine wpQuiet_nil ?_
  clear lf0 lf1 lf2
  refine lex_call (by kernel_rfl) (by kernel_rfl) (fun w23 b K hK => ?_)
  replace hT := hT.on b
  replace hF := hF.on b
  replace zf := zf.on b
  replace rx := rx.on b
  replace zx := zx.on b
  replace ry := ry.on b
  replace zy := zy.on b
  replace BW := Below.step BW b
  clear b
  go_simp
  refine (fnone_as hf n1 N1.out _).mono ?_
  rintro en w24 ⟨rfl, b⟩
  dsimp only
  refine hK _ _ b ?_
  clear hK K
  replace hT := hT.on b
  replace hF := hF.on b
  replace zf := zf.on b
  replace rx := rx.on b
  replace zx := zx.on b
  replace ry := ry.on b
  replace zy := zy.on b
  replace BW := Below.step BW b
  clear b
  refine lex_call (by kernel_rfl) (by kernel_rfl) (fun w25 b K hK => ?_)
  replace hT := hT.on b
  replace hF := hF.on b
  replace zf := zf.on b
  replace rx := rx.on b
  replace zx := zx.on b
  replace ry := ry.on b
  replace zy := zy.on b
  replace BW := Below.step BW b
  clear b
  go_simp
  refine (class_as hf n1 4 hn1 K4.out _).mono ?_
  rintro en w26 ⟨rfl, b⟩
  dsimp only
  refine hK _ _ b ?_
  clear hK K
  replace hT := hT.on b
  replace hF := hF.on b
  replace zf := zf.on b
  replace rx := rx.on b
  replace zx := zx.on b
  replace ry := ry.on b
  replace zy := zy.on b
  replace BW := Below.step BW b
  clear b
  have lf0 : ∀ s : Wd w26, s.w.cell? ⟨w2.heap.size, 0, none⟩ = some (.int .i64 (B : Int)) := fun s => (zf.on s.below).cells.1
  have lf1 : ∀ s : Wd w26, s.w.cell? ⟨w2.heap.size, 1, none⟩ = some (.int .i64 (P : Int)) := fun s => (zf.on s.below).cells.2.1
  have lf2 : ∀ s : Wd w26, s.w.cell? ⟨w2.heap.size, 2, none⟩ = some (.int .i64 (W : Int)) := fun s => (zf.on s.below).cells.2.2.1
  refine lex_plain 2 (by kernel_rfl) ?_
  dsimp only [List.take, List.drop]
  repeat go_big_quiet_step (fail)
  refine wpQuiet_nil ?_
  clear lf0 lf1 lf2
  refine lex_nil (fun w27 b => ?_)
  replace hT := hT.on b
  replace hF := hF.on b
  replace zf := zf.on b
  replace rx := rx.on b
  replace zx := zx.on b
  replace ry := ry.on b
  replace zy := zy.on b
  replace BW := Below.step BW b
  clear b
  dsimp only [NoPanic]
  obtain ⟨zfc0, zfc1, zfc2, zff0, zff1, zff2, zfl⟩ := zf.cells
  obtain ⟨zxc0, zxc1, zxc2, zxf0, zxf1, zxf2, zxl⟩ := zx.cells
  obtain ⟨zyc0, zyc1, zyc2, zyf0, zyf1, zyf2, zyl⟩ := zy.cells
  go_wp2_with fail
  refine (dcmp_as (rx.arg (by omega)) (ry.arg (by omega)) (by omega) (by omega) hT HQ.out).mono ?_
  rintro en w28 ⟨rfl, b⟩
  clear zfc0 zfc1 zfc2 zff0 zff1 zff2 zfl zxc0 zxc1 zxc2 zxf0 zxf1 zxf2 zxl zyc0 zyc1 zyc2 zyf0 zyf1 zyf2 zyl
  replace hT := hT.on b
  replace hF := hF.on b
  replace zf := zf.on b
  replace rx := rx.on b
  replace zx := zx.on b
  replace ry := ry.on b
  replace zy := zy.on b
  replace BW := Below.step BW b
  clear b
  obtain ⟨zfc0, zfc1, zfc2, zff0, zff1, zff2, zfl⟩ := zf.cells
  obtain ⟨zxc0, zxc1, zxc2, zxf0, zxf1, zxf2, zxl⟩ := zx.cells
  obtain ⟨zyc0, zyc1, zyc2, zyf0, zyf1, zyf2, zyl⟩ := zy.cells
  go_wp2_with fail
  go_ret
  exact ⟨rfl, BW⟩
theorem order_walk (bits : Int) (a : Nat) (ha : a < 18446744073709551616) (b : Nat) (hb : b < 18446744073709551616) {w : World} (hT : Tab w) (hF : Frm w) :
    Calls Tryd.prog 6 #[.int .i64 bits, .int .u64 (a : Int), .int .u64 (b : Int)] w fun e w' => e = .returned (.bool true) ∧ Below w.heap.size w w' := by
  rcases fm_of bits with ⟨B, P, W, M, E, H, low, hf, rfl⟩ | ⟨h1, h2, h3⟩
  · by_cases hx : a % H / M % (E + 1) = E
    · by_cases hy : b % H / M % (E + 1) = E
      · exact order_none1 hf a b _ _ ha hb rfl rfl hx hy hT hF
      · exact order_none2 hf a b _ _ ha hb rfl rfl hx hy hT hF
    · by_cases hy : b % H / M % (E + 1) = E
      · exact order_none3 hf a b _ _ ha hb rfl rfl hx hy hT hF
      · exact order_both hf a b _ _ ha hb rfl rfl hx hy hT hF
  · exact order_bad bits (a : Int) (b : Int) h1 h2 h3 hT hF
end Go.Proofs.YtflicmdgijghaaaDoor
