
/-
  The walk of the law FormatNext.
-/
import Derived.Test.YtflicmdgijghaaaDoorFw
import Derived.Test.YtflicmdgijghaaaDoorFval
import Derived.Test.YtflicmdgijghaaaDoorFopen
namespace Go.Proofs.YtflicmdgijghaaaDoor
open Go.RowKit
set_option linter.unusedVariables false

theorem res_one {w : World} {A : Option Addr} (h : Res w A 1 1) : ∃ g off, A = some ⟨g, off, none⟩ ∧ w.cell? ⟨g, off, none⟩ = some (.int .u32 1) := by
  obtain ⟨xs, h1, h2, h3⟩ := h
  have h4 : xs = [1] := canon_unique xs [1] h2 (canon1 1 (by omega) (by omega)) (by rw [h3]; rfl)
  subst h4
  obtain ⟨g, off, y, e, hb, hy, _, hc⟩ := h1.look (k := 0) (by omega)
  have := hy.out
  simp at this
  subst this
  exact ⟨g, off, e, by simpa using hc⟩
/-- what is told of any bits has a size that may be. -/
theorem val_any {B P W M E H : Nat} {low : Int} (hf : Fm B P W M E H low) (n : Nat) : ∃ (vn : Bool) (vx : Nat) (ve err : Int), valS M E H low n = (⟨vn, vx, ve⟩, err) ∧ blen vx ≤ 4096 := by
  obtain ⟨⟨⟨vn, vx, ve⟩, err⟩, hval⟩ : ∃ d, valS M E H low n = d := ⟨_, rfl⟩
  refine ⟨vn, vx, ve, err, hval, ?_⟩
  have h1 := val_may hf n (decide (n / H % 2 = 1))
  unfold valS at hval
  split at hval
  · split at hval
    · simp only [Prod.mk.injEq, D.mk.injEq] at hval
      rw [← hval.1.2.1, blen_zero]; omega
    · simp only [Prod.mk.injEq] at hval
      rw [hval.1] at h1
      exact ((D.may_iff _).1 h1.2).1
  · simp only [Prod.mk.injEq, D.mk.injEq] at hval
    rw [← hval.1.2.1, blen_zero]; omega
/-- the difference of two that stand side by side. -/
theorem next_sub {B P W M E H : Nat} {low : Int} (hf : Fm B P W M E H low) (x : Nat) (hx : x + 1 < M * E) :
    addS (D.pl ⟨decide ((x + 1) / H % 2 = 1), valN M E (x + 1), valP M E low (x + 1)⟩) (D.turn (D.pl ⟨decide (x / H % 2 = 1), valN M E x, valP M E low x⟩)) = (⟨false, 1, low + (max (x / M) 1 : Nat) - 1⟩, 0) := by
  obtain ⟨b1, b2, b3, b4, b5, b6, b7, b8, b9, b10, b11, b12, b13, b14, b15⟩ := hf.bd
  have hx1 := (lt_finite hf x (by omega)).1
  have hy1 := (lt_finite hf (x + 1) hx).1
  have mx := (val_may hf x (decide (x / H % 2 = 1))).2
  have my := (val_may hf (x + 1) (decide ((x + 1) / H % 2 = 1))).2
  have hq : x / M ≤ 2047 := by
    have := (fields hf x hx1).2.2.2.1
    omega
  rw [addS_ok my (by rw [D.turn_may]; exact mx)]
  have ex := ((D.may_iff _).1 mx).2.1
  have ey := ((D.may_iff _).1 my).2.1
  have h := D.add_of (a := D.pl ⟨decide ((x + 1) / H % 2 = 1), valN M E (x + 1), valP M E low (x + 1)⟩) (b := D.turn (D.pl ⟨decide (x / H % 2 = 1), valN M E x, valP M E low x⟩)) (c := ⟨false, 1, low + (max (x / M) 1 : Nat) - 1⟩)
    (by omega) (by show -40000 ≤ (D.pl ⟨decide (x / H % 2 = 1), valN M E x, valP M E low x⟩).e; omega) (by show -40000 ≤ low + (max (x / M) 1 : Nat) - 1; omega) (.inr rfl) (by
      rw [D.turn_vl, val_vl hf x hx1, val_vl hf (x + 1) hy1, val_step hf x hx]
      unfold D.vl D.sz
      simp only [Bool.false_eq_true, if_false]
      generalize (low + (max (x / M) 1 : Nat) - 1 + 40000).toNat = k
      rw [Int.natCast_add, two_cast]
      omega)
  rw [← h]
  unfold tld
  rw [may_small (by show 1 < 18446744073709551616; omega) (by show -8192 ≤ low + (max (x / M) 1 : Nat) - 1; omega) (by show low + (max (x / M) 1 : Nat) - 1 ≤ 8192; omega), if_pos rfl]
theorem next_bad (bits kb : Int) (h1 : bits ≠ 16) (h2 : bits ≠ 32) (h3 : bits ≠ 64) {w : World} (hT : Tab w) (hF : Frm w) :
    Calls Tryd.prog 7 #[.int .i64 bits, .int .u64 kb] w fun e w' => e = .returned (.bool true) ∧ Below w.heap.size w w' := by
  go_enter Tryd.func7, Tryd.ntmps7
  go_wp2_with fail
  refine (awake3_any hT hF).mono ?_
  rintro en w1 ⟨rfl, b⟩
  replace hT := hT.on b
  replace hF := hF.on b
  have BW := b
  clear b
  go_wp2_with fail
  refine (of_bad bits h1 h2 h3 _ hF).mono ?_
  rintro en w2 ⟨rfl, b⟩
  replace hT := hT.on b
  replace hF := hF.on b
  replace BW := Below.step BW b
  clear b
  go_wp2_with fail
  go_ret
  exact ⟨rfl, Below.step BW (below_lit _ _)⟩
set_option maxHeartbeats 2000000 in
theorem next_none1 {B P W M E H : Nat} {low : Int} (hf : Fm B P W M E H low) (kb x y : Nat) (hb : kb < 18446744073709551616) (hx : kb % H = x) (hy : x + 1 = y) (hEx : x / M % (E + 1) = E) {w : World} (hT : Tab w) (hF : Frm w) :
    Calls Tryd.prog 7 #[.int .i64 (B : Int), .int .u64 (kb : Int)] w fun e w' => e = .returned (.bool true) ∧ Below w.heap.size w w' := by
  obtain ⟨b1, b2, b3, b4, b5, b6, b7, b8, b9, b10, b11, b12, b13, b14, b15⟩ := hf.bd
  have hH : 0 < H := by omega
  have hxH : x < H := by rw [← hx]; exact Nat.mod_lt _ hH
  have hx2 : x < 18446744073709551616 := by omega
  have hy2 : y < 18446744073709551616 := by omega
  have HN : Hid (sgn H true 0 = H) := Lib.hid (by unfold sgn; simp)
  have q1 : (kb : Int) % (H : Int) = (x : Int) := by rw [← Int.natCast_emod, hx]
  have q1' : (kb : Int).tmod (H : Int) = (x : Int) := by rw [Int.tmod_eq_emod_of_nonneg (by omega)]; exact q1
  have q2 : IntKind.u64.wrap ((x : Int) + 1) = (y : Int) := by rw [show (x : Int) + 1 = ((y : Nat) : Int) by omega]; exact wrap64_nat y hy2
  have q2' : (x : Int) + 1 = (y : Int) := by omega
  obtain ⟨xn, xx, xe, HX, hlx⟩ : ∃ (n : Bool) (x' : Nat) (e : Int), Hid (valS M E H low x = (⟨n, x', e⟩, 1)) ∧ blen x' ≤ 4096 := ⟨false, 0, 0, by unfold valS; rw [if_pos (by omega), if_pos hEx]; exact Lib.hid rfl, by rw [blen_zero]; omega⟩
  obtain ⟨yn, yx, ye, ey, hy3, hly⟩ := val_any hf y
  have HY := Lib.hid hy3
  clear hy3
  clear hx hy b1 hEx
  go_enter Tryd.func7, Tryd.ntmps7
  go_wp2_with fail
  refine (awake3_any hT hF).mono ?_
  rintro en w1 ⟨rfl, b⟩
  replace hT := hT.on b
  replace hF := hF.on b
  have BW := b
  clear b
  go_wp2_with fail
  refine (of_fm hf _ hF).mono ?_
  rintro en w2 ⟨rfl, b⟩
  replace hT := hT.on b
  replace hF := hF.on b
  replace BW := Below.step BW b
  clear b
  go_wp2_with fail
  obtain ⟨w3, e_w3⟩ : ∃ w', w2.alloc (.cells #[.int .i64 (B : Int), .int .i64 (P : Int), .int .i64 (W : Int)] 25) = w' := ⟨_, rfl⟩
  have b : Below w2.heap.size w2 w3 := e_w3 ▸ below_lit _ _
  have hs_w3 : w3.heap.size = w2.heap.size + 1 := e_w3 ▸ size_lit w2 _ rfl
  have zf : FB w3 w2.heap.size 25 (B : Int) (P : Int) (W : Int) := e_w3 ▸ Box.made_at w2 rfl 25 (notU_int _) (notU_int _) (notU_int _)
  rw [e_w3]
  clear e_w3
  replace hT := hT.on b
  replace hF := hF.on b
  replace BW := Below.step BW b
  clear b
  refine (nought_as hf true H HN.out _).mono ?_
  rintro en w4 ⟨rfl, b⟩
  replace hT := hT.on b
  replace hF := hF.on b
  replace zf := zf.on b
  replace BW := Below.step BW b
  clear b
  obtain ⟨zfc0, zfc1, zfc2, zff0, zff1, zff2, zfl⟩ := zf.cells
  go_wp2_with fail
  refine (value_as hf x hx2 hT HX.out).mono ?_
  rintro en w5 ⟨V_rx, v_rx, rfl, rx, b⟩
  clear zfc0 zfc1 zfc2 zff0 zff1 zff2 zfl
  replace hT := hT.on b
  replace hF := hF.on b
  replace zf := zf.on b
  replace BW := Below.step BW b
  clear b
  have lx := res_n_le rx (k := 128) hlx
  obtain ⟨zfc0, zfc1, zfc2, zff0, zff1, zff2, zfl⟩ := zf.cells
  go_wp2_with fail
  clear zfc0 zfc1 zfc2 zff0 zff1 zff2 zfl
  obtain ⟨w6, e_w6⟩ : ∃ w', w5.alloc (dob xn V_rx v_rx v_rx xe 37) = w' := ⟨_, rfl⟩
  have b : Below w5.heap.size w5 w6 := e_w6 ▸ below_lit _ _
  have hs_w6 : w6.heap.size = w5.heap.size + 1 := e_w6 ▸ size_lit w5 _ rfl
  have zx : DB w6 w5.heap.size 37 xn V_rx v_rx v_rx xe := e_w6 ▸ DB.made w5 rfl 37 xn V_rx v_rx v_rx xe
  rw [e_w6]
  clear e_w6
  replace hT := hT.on b
  replace hF := hF.on b
  replace zf := zf.on b
  replace rx := rx.on b
  replace BW := Below.step BW b
  clear b
  refine (value_as hf y hy2 hT HY.out).mono ?_
  rintro en w7 ⟨V_ry, v_ry, rfl, ry, b⟩
  replace hT := hT.on b
  replace hF := hF.on b
  replace zf := zf.on b
  replace rx := rx.on b
  replace zx := zx.on b
  replace BW := Below.step BW b
  clear b
  have ly := res_n_le ry (k := 128) hly
  obtain ⟨zfc0, zfc1, zfc2, zff0, zff1, zff2, zfl⟩ := zf.cells
  obtain ⟨zxc0, zxc1, zxc2, zxf0, zxf1, zxf2, zxl⟩ := zx.cells
  go_wp2_with fail
  clear zfc0 zfc1 zfc2 zff0 zff1 zff2 zfl zxc0 zxc1 zxc2 zxf0 zxf1 zxf2 zxl
  obtain ⟨w8, e_w8⟩ : ∃ w', w7.alloc (dob yn V_ry v_ry v_ry ye 37) = w' := ⟨_, rfl⟩
  have b : Below w7.heap.size w7 w8 := e_w8 ▸ below_lit _ _
  have hs_w8 : w8.heap.size = w7.heap.size + 1 := e_w8 ▸ size_lit w7 _ rfl
  have zy : DB w8 w7.heap.size 37 yn V_ry v_ry v_ry ye := e_w8 ▸ DB.made w7 rfl 37 yn V_ry v_ry v_ry ye
  rw [e_w8]
  clear e_w8
  replace hT := hT.on b
  replace hF := hF.on b
  replace zf := zf.on b
  replace rx := rx.on b
  replace zx := zx.on b
  replace ry := ry.on b
  replace BW := Below.step BW b
  clear b
  go_ret
  exact ⟨rfl, BW⟩
set_option maxHeartbeats 2000000 in
theorem next_none2 {B P W M E H : Nat} {low : Int} (hf : Fm B P W M E H low) (kb x y : Nat) (hb : kb < 18446744073709551616) (hx : kb % H = x) (hy : x + 1 = y) (hEx : x / M % (E + 1) ≠ E) (hEy : y / M % (E + 1) = E) {w : World} (hT : Tab w) (hF : Frm w) :
    Calls Tryd.prog 7 #[.int .i64 (B : Int), .int .u64 (kb : Int)] w fun e w' => e = .returned (.bool true) ∧ Below w.heap.size w w' := by
  obtain ⟨b1, b2, b3, b4, b5, b6, b7, b8, b9, b10, b11, b12, b13, b14, b15⟩ := hf.bd
  have hH : 0 < H := by omega
  have hxH : x < H := by rw [← hx]; exact Nat.mod_lt _ hH
  have hx2 : x < 18446744073709551616 := by omega
  have hy2 : y < 18446744073709551616 := by omega
  have HN : Hid (sgn H true 0 = H) := Lib.hid (by unfold sgn; simp)
  have q1 : (kb : Int) % (H : Int) = (x : Int) := by rw [← Int.natCast_emod, hx]
  have q1' : (kb : Int).tmod (H : Int) = (x : Int) := by rw [Int.tmod_eq_emod_of_nonneg (by omega)]; exact q1
  have q2 : IntKind.u64.wrap ((x : Int) + 1) = (y : Int) := by rw [show (x : Int) + 1 = ((y : Nat) : Int) by omega]; exact wrap64_nat y hy2
  have q2' : (x : Int) + 1 = (y : Int) := by omega
  obtain ⟨xn, xx, xe, hdx⟩ : ∃ (n : Bool) (x' : Nat) (e : Int), D.pl ⟨decide (x / H % 2 = 1), valN M E x, valP M E low x⟩ = ⟨n, x', e⟩ := ⟨_, _, _, rfl⟩
  have HX : Hid (valS M E H low x = (⟨xn, xx, xe⟩, 0)) := by unfold valS; rw [if_pos (by omega), if_neg hEx, hdx]; exact Lib.hid rfl
  have hmx := (val_may hf x (decide (x / H % 2 = 1))).2
  rw [hdx] at hmx
  have hlx := ((D.may_iff _).1 hmx).1
  simp only at hlx
  obtain ⟨yn, yx, ye, HY, hly⟩ : ∃ (n : Bool) (x' : Nat) (e : Int), Hid (valS M E H low y = (⟨n, x', e⟩, 1)) ∧ blen x' ≤ 4096 := ⟨false, 0, 0, by unfold valS; rw [if_pos (by omega), if_pos hEy]; exact Lib.hid rfl, by rw [blen_zero]; omega⟩
  clear hx hy b1 hEx hEy hdx hmx
  go_enter Tryd.func7, Tryd.ntmps7
  go_wp2_with fail
  refine (awake3_any hT hF).mono ?_
  rintro en w1 ⟨rfl, b⟩
  replace hT := hT.on b
  replace hF := hF.on b
  have BW := b
  clear b
  go_wp2_with fail
  refine (of_fm hf _ hF).mono ?_
  rintro en w2 ⟨rfl, b⟩
  replace hT := hT.on b
  replace hF := hF.on b
  replace BW := Below.step BW b
  clear b
  go_wp2_with fail
  obtain ⟨w3, e_w3⟩ : ∃ w', w2.alloc (.cells #[.int .i64 (B : Int), .int .i64 (P : Int), .int .i64 (W : Int)] 25) = w' := ⟨_, rfl⟩
  have b : Below w2.heap.size w2 w3 := e_w3 ▸ below_lit _ _
  have hs_w3 : w3.heap.size = w2.heap.size + 1 := e_w3 ▸ size_lit w2 _ rfl
  have zf : FB w3 w2.heap.size 25 (B : Int) (P : Int) (W : Int) := e_w3 ▸ Box.made_at w2 rfl 25 (notU_int _) (notU_int _) (notU_int _)
  rw [e_w3]
  clear e_w3
  replace hT := hT.on b
  replace hF := hF.on b
  replace BW := Below.step BW b
  clear b
  refine (nought_as hf true H HN.out _).mono ?_
  rintro en w4 ⟨rfl, b⟩
  replace hT := hT.on b
  replace hF := hF.on b
  replace zf := zf.on b
  replace BW := Below.step BW b
  clear b
  obtain ⟨zfc0, zfc1, zfc2, zff0, zff1, zff2, zfl⟩ := zf.cells
  go_wp2_with fail
  refine (value_as hf x hx2 hT HX.out).mono ?_
  rintro en w5 ⟨V_rx, v_rx, rfl, rx, b⟩
  clear zfc0 zfc1 zfc2 zff0 zff1 zff2 zfl
  replace hT := hT.on b
  replace hF := hF.on b
  replace zf := zf.on b
  replace BW := Below.step BW b
  clear b
  have lx := res_n_le rx (k := 128) hlx
  obtain ⟨zfc0, zfc1, zfc2, zff0, zff1, zff2, zfl⟩ := zf.cells
  go_wp2_with fail
  clear zfc0 zfc1 zfc2 zff0 zff1 zff2 zfl
  obtain ⟨w6, e_w6⟩ : ∃ w', w5.alloc (dob xn V_rx v_rx v_rx xe 37) = w' := ⟨_, rfl⟩
  have b : Below w5.heap.size w5 w6 := e_w6 ▸ below_lit _ _
  have hs_w6 : w6.heap.size = w5.heap.size + 1 := e_w6 ▸ size_lit w5 _ rfl
  have zx : DB w6 w5.heap.size 37 xn V_rx v_rx v_rx xe := e_w6 ▸ DB.made w5 rfl 37 xn V_rx v_rx v_rx xe
  rw [e_w6]
  clear e_w6
  replace hT := hT.on b
  replace hF := hF.on b
  replace zf := zf.on b
  replace rx := rx.on b
  replace BW := Below.step BW b
  clear b
  refine (value_as hf y hy2 hT HY.out).mono ?_
  rintro en w7 ⟨V_ry, v_ry, rfl, ry, b⟩
  replace hT := hT.on b
  replace hF := hF.on b
  replace zf := zf.on b
  replace rx := rx.on b
  replace zx := zx.on b
  replace BW := Below.step BW b
  clear b
  have ly := res_n_le ry (k := 128) hly
  obtain ⟨zfc0, zfc1, zfc2, zff0, zff1, zff2, zfl⟩ := zf.cells
  obtain ⟨zxc0, zxc1, zxc2, zxf0, zxf1, zxf2, zxl⟩ := zx.cells
  go_wp2_with fail
  clear zfc0 zfc1 zfc2 zff0 zff1 zff2 zfl zxc0 zxc1 zxc2 zxf0 zxf1 zxf2 zxl
  obtain ⟨w8, e_w8⟩ : ∃ w', w7.alloc (dob yn V_ry v_ry v_ry ye 37) = w' := ⟨_, rfl⟩
  have b : Below w7.heap.size w7 w8 := e_w8 ▸ below_lit _ _
  have hs_w8 : w8.heap.size = w7.heap.size + 1 := e_w8 ▸ size_lit w7 _ rfl
  have zy : DB w8 w7.heap.size 37 yn V_ry v_ry v_ry ye := e_w8 ▸ DB.made w7 rfl 37 yn V_ry v_ry v_ry ye
  rw [e_w8]
  clear e_w8
  replace hT := hT.on b
  replace hF := hF.on b
  replace zf := zf.on b
  replace rx := rx.on b
  replace zx := zx.on b
  replace ry := ry.on b
  replace BW := Below.step BW b
  clear b
  go_ret
  exact ⟨rfl, BW⟩
set_option maxHeartbeats 2000000 in
theorem next_both {B P W M E H : Nat} {low : Int} (hf : Fm B P W M E H low) (kb x y : Nat) (hb : kb < 18446744073709551616) (hx : kb % H = x) (hy : x + 1 = y) (hEx : x / M % (E + 1) ≠ E) (hEy : y / M % (E + 1) ≠ E) {w : World} (hT : Tab w) (hF : Frm w) :
    Calls Tryd.prog 7 #[.int .i64 (B : Int), .int .u64 (kb : Int)] w fun e w' => e = .returned (.bool true) ∧ Below w.heap.size w w' := by
  obtain ⟨b1, b2, b3, b4, b5, b6, b7, b8, b9, b10, b11, b12, b13, b14, b15⟩ := hf.bd
  have hH : 0 < H := by omega
  have hxH : x < H := by rw [← hx]; exact Nat.mod_lt _ hH
  have hx2 : x < 18446744073709551616 := by omega
  have hy2 : y < 18446744073709551616 := by omega
  have HN : Hid (sgn H true 0 = H) := Lib.hid (by unfold sgn; simp)
  have q1 : (kb : Int) % (H : Int) = (x : Int) := by rw [← Int.natCast_emod, hx]
  have q1' : (kb : Int).tmod (H : Int) = (x : Int) := by rw [Int.tmod_eq_emod_of_nonneg (by omega)]; exact q1
  have q2 : IntKind.u64.wrap ((x : Int) + 1) = (y : Int) := by rw [show (x : Int) + 1 = ((y : Nat) : Int) by omega]; exact wrap64_nat y hy2
  have q2' : (x : Int) + 1 = (y : Int) := by omega
  obtain ⟨xn, xx, xe, hdx⟩ : ∃ (n : Bool) (x' : Nat) (e : Int), D.pl ⟨decide (x / H % 2 = 1), valN M E x, valP M E low x⟩ = ⟨n, x', e⟩ := ⟨_, _, _, rfl⟩
  have HX : Hid (valS M E H low x = (⟨xn, xx, xe⟩, 0)) := by unfold valS; rw [if_pos (by omega), if_neg hEx, hdx]; exact Lib.hid rfl
  have hmx := (val_may hf x (decide (x / H % 2 = 1))).2
  rw [hdx] at hmx
  have hlx := ((D.may_iff _).1 hmx).1
  simp only at hlx
  obtain ⟨yn, yx, ye, hdy⟩ : ∃ (n : Bool) (x' : Nat) (e : Int), D.pl ⟨decide (y / H % 2 = 1), valN M E y, valP M E low y⟩ = ⟨n, x', e⟩ := ⟨_, _, _, rfl⟩
  have HY : Hid (valS M E H low y = (⟨yn, yx, ye⟩, 0)) := by unfold valS; rw [if_pos (by omega), if_neg hEy, hdy]; exact Lib.hid rfl
  have hmy := (val_may hf y (decide (y / H % 2 = 1))).2
  rw [hdy] at hmy
  have hly := ((D.may_iff _).1 hmy).1
  simp only at hly
  have hxf := finite_lt hf x hxH hEx
  have hyf : x + 1 < M * E := by
    rcases Nat.lt_or_ge (x + 1) (M * E) with h | h
    · exact h
    · obtain ⟨e1, e2⟩ := hf.hlf
      have e3 : M * E + M = H := by rw [← e1, Nat.mul_add, Nat.mul_one]
      have h1 : y < H := by omega
      have := finite_lt hf y h1 hEy
      omega
  obtain ⟨m, hm⟩ : ∃ m, max (x / M) 1 = m := ⟨_, rfl⟩
  have hk1 : x / M < E + 1 := (fields hf x hxH).2.2.2.1
  obtain ⟨k, hk⟩ : ∃ k, x / M = k := ⟨_, rfl⟩
  obtain ⟨pl, hpl⟩ : ∃ pl : Int, low + (m : Int) - 1 = pl := ⟨_, rfl⟩
  have HQ : Hid (addS ⟨yn, yx, ye⟩ (D.turn ⟨xn, xx, xe⟩) = (⟨false, 1, pl⟩, 0)) := by
    have h := next_sub hf x hyf
    rw [hy, hdy, hdx, hm, hpl] at h
    exact Lib.hid h
  rw [hk] at hk1 hm
  have r1 : IntKind.i64.wrap ((P : Int) - 1) = (P : Int) - 1 := IntWalk.i64_in _ (by omega)
  have r2 : 0 ≤ (P : Int) - 1 := by omega
  have r3 : ((P : Int) - 1).toNat = P - 1 := by omega
  have r4 : (x : Int) / 2 ^ (P - 1) = (k : Int) := by rw [← two_cast, hf.pP, ← Int.natCast_ediv, hk]
  have r5 : IntKind.i64.wrap (k : Int) = (k : Int) := IntWalk.i64_in _ (by omega)
  have r6 : max (k : Int) 1 = (m : Int) := by omega
  have r7 : IntKind.i64.wrap (low + (m : Int)) = low + (m : Int) := IntWalk.i64_in _ (by omega)
  have r8 : IntKind.i64.wrap (low + (m : Int) - 1) = pl := by rw [IntWalk.i64_in _ (by omega)]; exact hpl
  clear hx hy b1 hEx hEy hdx hmx hdy hmy hxf hyf hm hk1 hk hpl
  go_enter Tryd.func7, Tryd.ntmps7
  go_wp2_with fail
  refine (awake3_any hT hF).mono ?_
  rintro en w1 ⟨rfl, b⟩
  replace hT := hT.on b
  replace hF := hF.on b
  have BW := b
  clear b
  go_wp2_with fail
  refine (of_fm hf _ hF).mono ?_
  rintro en w2 ⟨rfl, b⟩
  replace hT := hT.on b
  replace hF := hF.on b
  replace BW := Below.step BW b
  clear b
  go_wp2_with fail
  obtain ⟨w3, e_w3⟩ : ∃ w', w2.alloc (.cells #[.int .i64 (B : Int), .int .i64 (P : Int), .int .i64 (W : Int)] 25) = w' := ⟨_, rfl⟩
  have b : Below w2.heap.size w2 w3 := e_w3 ▸ below_lit _ _
  have hs_w3 : w3.heap.size = w2.heap.size + 1 := e_w3 ▸ size_lit w2 _ rfl
  have zf : FB w3 w2.heap.size 25 (B : Int) (P : Int) (W : Int) := e_w3 ▸ Box.made_at w2 rfl 25 (notU_int _) (notU_int _) (notU_int _)
  rw [e_w3]
  clear e_w3
  replace hT := hT.on b
  replace hF := hF.on b
  replace BW := Below.step BW b
  clear b
  refine (nought_as hf true H HN.out _).mono ?_
  rintro en w4 ⟨rfl, b⟩
  replace hT := hT.on b
  replace hF := hF.on b
  replace zf := zf.on b
  replace BW := Below.step BW b
  clear b
  obtain ⟨zfc0, zfc1, zfc2, zff0, zff1, zff2, zfl⟩ := zf.cells
  go_wp2_with fail
  refine (value_as hf x hx2 hT HX.out).mono ?_
  rintro en w5 ⟨V_rx, v_rx, rfl, rx, b⟩
  clear zfc0 zfc1 zfc2 zff0 zff1 zff2 zfl
  replace hT := hT.on b
  replace hF := hF.on b
  replace zf := zf.on b
  replace BW := Below.step BW b
  clear b
  have lx := res_n_le rx (k := 128) hlx
  obtain ⟨zfc0, zfc1, zfc2, zff0, zff1, zff2, zfl⟩ := zf.cells
  go_wp2_with fail
  clear zfc0 zfc1 zfc2 zff0 zff1 zff2 zfl
  obtain ⟨w6, e_w6⟩ : ∃ w', w5.alloc (dob xn V_rx v_rx v_rx xe 37) = w' := ⟨_, rfl⟩
  have b : Below w5.heap.size w5 w6 := e_w6 ▸ below_lit _ _
  have hs_w6 : w6.heap.size = w5.heap.size + 1 := e_w6 ▸ size_lit w5 _ rfl
  have zx : DB w6 w5.heap.size 37 xn V_rx v_rx v_rx xe := e_w6 ▸ DB.made w5 rfl 37 xn V_rx v_rx v_rx xe
  rw [e_w6]
  clear e_w6
  replace hT := hT.on b
  replace hF := hF.on b
  replace zf := zf.on b
  replace rx := rx.on b
  replace BW := Below.step BW b
  clear b
  refine (value_as hf y hy2 hT HY.out).mono ?_
  rintro en w7 ⟨V_ry, v_ry, rfl, ry, b⟩
  replace hT := hT.on b
  replace hF := hF.on b
  replace zf := zf.on b
  replace rx := rx.on b
  replace zx := zx.on b
  replace BW := Below.step BW b
  clear b
  have ly := res_n_le ry (k := 128) hly
  obtain ⟨zfc0, zfc1, zfc2, zff0, zff1, zff2, zfl⟩ := zf.cells
  obtain ⟨zxc0, zxc1, zxc2, zxf0, zxf1, zxf2, zxl⟩ := zx.cells
  go_wp2_with fail
  clear zfc0 zfc1 zfc2 zff0 zff1 zff2 zfl zxc0 zxc1 zxc2 zxf0 zxf1 zxf2 zxl
  obtain ⟨w8, e_w8⟩ : ∃ w', w7.alloc (dob yn V_ry v_ry v_ry ye 37) = w' := ⟨_, rfl⟩
  have b : Below w7.heap.size w7 w8 := e_w8 ▸ below_lit _ _
  have hs_w8 : w8.heap.size = w7.heap.size + 1 := e_w8 ▸ size_lit w7 _ rfl
  have zy : DB w8 w7.heap.size 37 yn V_ry v_ry v_ry ye := e_w8 ▸ DB.made w7 rfl 37 yn V_ry v_ry v_ry ye
  rw [e_w8]
  clear e_w8
  replace hT := hT.on b
  replace hF := hF.on b
  replace zf := zf.on b
  replace rx := rx.on b
  replace zx := zx.on b
  replace ry := ry.on b
  replace BW := Below.step BW b
  clear b
  obtain ⟨zfc0, zfc1, zfc2, zff0, zff1, zff2, zfl⟩ := zf.cells
  obtain ⟨zxc0, zxc1, zxc2, zxf0, zxf1, zxf2, zxl⟩ := zx.cells
  obtain ⟨zyc0, zyc1, zyc2, zyf0, zyf1, zyf2, zyl⟩ := zy.cells
  refine (dsub_as (ry.arg (by omega)) (rx.arg (by omega)) (by omega) (by omega) hT HQ.out).mono ?_
  rintro en w9 ⟨V_rd, v_rd, rfl, rd, b⟩
  clear zfc0 zfc1 zfc2 zff0 zff1 zff2 zfl zxc0 zxc1 zxc2 zxf0 zxf1 zxf2 zxl zyc0 zyc1 zyc2 zyf0 zyf1 zyf2 zyl
  replace hT := hT.on b
  replace hF := hF.on b
  replace zf := zf.on b
  replace rx := rx.on b
  replace zx := zx.on b
  replace ry := ry.on b
  replace zy := zy.on b
  replace BW := Below.step BW b
  clear b
  obtain rfl : v_rd = 1 := rd.one_n
  obtain ⟨zfc0, zfc1, zfc2, zff0, zff1, zff2, zfl⟩ := zf.cells
  obtain ⟨zxc0, zxc1, zxc2, zxf0, zxf1, zxf2, zxl⟩ := zx.cells
  obtain ⟨zyc0, zyc1, zyc2, zyf0, zyf1, zyf2, zyl⟩ := zy.cells
  go_wp2_with fail
  clear zfc0 zfc1 zfc2 zff0 zff1 zff2 zfl zxc0 zxc1 zxc2 zxf0 zxf1 zxf2 zxl zyc0 zyc1 zyc2 zyf0 zyf1 zyf2 zyl
  obtain ⟨w10, e_w10⟩ : ∃ w', w9.alloc (dob false V_rd 1 1 pl 37) = w' := ⟨_, rfl⟩
  have b : Below w9.heap.size w9 w10 := e_w10 ▸ below_lit _ _
  have hs_w10 : w10.heap.size = w9.heap.size + 1 := e_w10 ▸ size_lit w9 _ rfl
  have zd : DB w10 w9.heap.size 37 false V_rd 1 1 pl := e_w10 ▸ DB.made w9 rfl 37 false V_rd 1 1 pl
  rw [e_w10]
  clear e_w10
  replace hT := hT.on b
  replace hF := hF.on b
  replace zf := zf.on b
  replace rx := rx.on b
  replace zx := zx.on b
  replace ry := ry.on b
  replace zy := zy.on b
  replace rd := rd.on b
  replace BW := Below.step BW b
  clear b
  replace hT := hT.on ((Below.refl _ _).drew : Below w10.heap.size w10 w10.drew)
  replace hF := hF.on ((Below.refl _ _).drew : Below w10.heap.size w10 w10.drew)
  replace zf := zf.on ((Below.refl _ _).drew : Below w10.heap.size w10 w10.drew)
  replace rx := rx.on ((Below.refl _ _).drew : Below w10.heap.size w10 w10.drew)
  replace zx := zx.on ((Below.refl _ _).drew : Below w10.heap.size w10 w10.drew)
  replace ry := ry.on ((Below.refl _ _).drew : Below w10.heap.size w10 w10.drew)
  replace zy := zy.on ((Below.refl _ _).drew : Below w10.heap.size w10 w10.drew)
  replace rd := rd.on ((Below.refl _ _).drew : Below w10.heap.size w10 w10.drew)
  replace zd := zd.on ((Below.refl _ _).drew : Below w10.heap.size w10 w10.drew)
  replace BW := Lib.hid (Below.step BW ((Below.refl _ _).drew : Below w10.heap.size w10 w10.drew))
  go_region_held3 (fun w' => w'.cell? ⟨w2.heap.size, 0, none⟩ = some (.int .i64 (B : Int)) ∧ w'.cell? ⟨w2.heap.size, 1, none⟩ = some (.int .i64 (P : Int)) ∧ w'.cell? ⟨w2.heap.size, 2, none⟩ = some (.int .i64 (W : Int)))
    ((first | exact ⟨zf.cells.1, zf.cells.2.1, zf.cells.2.2.1⟩))
    (first
      | (go_at_call 16
         (with_reducible refine (flow_as hf low rfl _).mono ?_)
         rintro en w11 ⟨rfl, b⟩
         replace hT := hT.on b
         replace hF := hF.on b
         replace zf := zf.on b
         replace rx := rx.on b
         replace zx := zx.on b
         replace ry := ry.on b
         replace zy := zy.on b
         replace rd := rd.on b
         replace zd := zd.on b
         replace BW := Lib.hid (Below.step BW.out b)
         clear b))
  replace BW := BW.out
  all_goals
    obtain ⟨g, off, rfl, hc⟩ := res_one rd
    obtain ⟨zdc0, zdc1, zdc2, zdf0, zdf1, zdf2, zdl⟩ := zd.cells
    go_wp2_with fail
    go_ret
    exact ⟨rfl, BW⟩
theorem next_walk (bits : Int) (kb : Nat) (hb : kb < 18446744073709551616) {w : World} (hT : Tab w) (hF : Frm w) :
    Calls Tryd.prog 7 #[.int .i64 bits, .int .u64 (kb : Int)] w fun e w' => e = .returned (.bool true) ∧ Below w.heap.size w w' := by
  rcases fm_of bits with ⟨B, P, W, M, E, H, low, hf, rfl⟩ | ⟨h1, h2, h3⟩
  · by_cases hx : kb % H / M % (E + 1) = E
    · exact next_none1 hf kb _ _ hb rfl rfl hx hT hF
    · by_cases hy : (kb % H + 1) / M % (E + 1) = E
      · exact next_none2 hf kb _ _ hb rfl rfl hx hy hT hF
      · exact next_both hf kb _ _ hb rfl rfl hx hy hT hF
  · exact next_bad bits (kb : Int) h1 h2 h3 hT hF
end Go.Proofs.YtflicmdgijghaaaDoor
