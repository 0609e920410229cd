
/-
  The walk of the law RoundNears.
-/
import Derived.Test.YtkjbejdeejpdoaaDoorKw
import Derived.Test.YtkjbejdeejpdoaaDoorFopen
import Derived.Test.YtkjbejdeejpdoaaDoorND
import Derived.Test.YtkjbejdeejpdoaaDoorRrb
namespace Go.Proofs.YtkjbejdeejpdoaaDoor
open Go.RowKit
set_option linter.unusedVariables false

theorem rparts_k {A : Option Addr} {n c x : Nat} {w : World} (h : BR w A n c x) (hn : n ≤ 1000000) :
    Calls Tryd.prog 17 #[.slice A n c] w fun e w' => ∃ A' n' c', e = .returned (.slice A' n' c') ∧ Res w' A' n' x ∧ Below w.heap.size w w' :=
  (rparts_any h hn).mono fun e w' ⟨A, n, c, h1, h2, _, h3⟩ => ⟨A, n, c, h1, h2, h3⟩
/-- two variables with numbers of the reference, made within an assignment. -/
def Cut2R (w0 : World) (lx : Nat) (le : Int) (hx : Nat) (he : Int) (s12 s13 : Value) (wx : World) : Prop :=
  ∃ g A n c g' A' n' c', s12 = .pointer (some ⟨g, 0, none⟩) ∧ s13 = .pointer (some ⟨g', 0, none⟩) ∧ DB wx g 41 false A n c le ∧ DB wx g' 41 false A' n' c' he ∧ BR wx A n c lx ∧ BR wx A' n' c' hx ∧ w0.heap.size ≤ g ∧ w0.heap.size ≤ g' ∧ Below w0.heap.size w0 wx
theorem Cut2R.mk {w0 wx : World} {lx : Nat} {le : Int} {hx : Nat} {he : Int} {g n c g' n' c' : Nat} {A A' : Option Addr} (h1 : DB wx g 41 false A n c le) (h2 : DB wx g' 41 false A' n' c' he) (h3 : BR wx A n c lx) (h4 : BR wx A' n' c' hx)
    (h5 : w0.heap.size ≤ g) (h6 : w0.heap.size ≤ g') (h7 : Below w0.heap.size w0 wx) : Cut2R w0 lx le hx he (.pointer (some ⟨g, 0, none⟩)) (.pointer (some ⟨g', 0, none⟩)) wx := ⟨g, A, n, c, g', A', n', c', rfl, rfl, h1, h2, h3, h4, h5, h6, h7⟩
theorem own4_any {A : Option Addr} {n c x : Nat} {neg : Bool} {e : Int} {w : World} (h : Arg w A n c x) (hn : n ≤ 30000) :
    Calls Tryd.prog 14 #[.agg #[.bool neg, .slice A n c, .int .i64 e]] w (RPx w neg x e) := by
  go_enter Tryd.func14, Tryd.ntmps14
  go_wp2_with fail
  obtain ⟨V, hV, z0, z1, BW, sW⟩ := frame2 w 25 41 neg A n c e false none 0 0 0
  rw [hV]
  clear hV sW
  replace h := h.on BW
  refine (rOf_any h hn).mono ?_
  rintro en w1 ⟨V_r, v_r, c_r, rfl, r, b⟩
  replace z0 := z0.on b
  replace z1 := z1.on b
  replace h := h.on b
  replace BW := Below.step BW b
  clear b
  obtain ⟨z1c0, z1c1, z1c2, z1f0, z1f1, z1f2, z1l⟩ := z1.cells
  go_wp2_with fail
  clear z1c0 z1c1 z1c2 z1f0 z1f1 z1f2 z1l
  have y2 := z1.put_d neg V_r v_r c_r e
  obtain ⟨p0, p1, p2, _⟩ := y2.cells
  refine bodyPost_ret (v := .agg #[.bool neg, .slice V_r v_r c_r, .int .i64 e]) (by simp [results, Tryd.results14, go_sem, p0, p1, p2]) rfl ?_
  exact ⟨_, _, _, rfl, z1.br tRD r _ _ _, below_put3 BW (by omega) _ _ _⟩
set_option maxRecDepth 100000 in
theorem nears_bad (bits : Int) (b1 : bits ≠ 16) (b2 : bits ≠ 32) (b3 : bits ≠ 64) {n0 : Bool} {A0 : Option Addr} {l0 c0 x0 : Nat} {e0 : Int} {w : World} (h0 : Arg w A0 l0 c0 x0) (hT : Tab w) (hF : Frm w) : Calls Tryd.prog 3 #[.int .i64 bits, .agg #[.bool n0, .slice A0 l0 c0, .int .i64 e0]] w fun e w' => e = .returned (.bool true) ∧ Below w.heap.size w w' := by
  go_enter Tryd.func3, Tryd.ntmps3
  go_wp2_with fail
  obtain ⟨V, hV, za, BW, sW⟩ := frame1 w 25 n0 A0 l0 c0 e0
  rw [hV]
  clear hV sW
  replace hT := hT.on BW
  replace hF := hF.on BW
  replace h0 := h0.on BW
  refine (awake4_any hT hF).mono ?_
  rintro en w1 ⟨rfl, b⟩
  replace hT := hT.on b
  replace hF := hF.on b
  replace za := za.on b
  replace h0 := h0.on b
  replace BW := Below.step BW b
  clear b
  go_wp2_with fail
  refine (of_bad bits b1 b2 b3 _ hF).mono ?_
  rintro en w2 ⟨rfl, b⟩
  replace hT := hT.on b
  replace hF := hF.on b
  replace za := za.on b
  replace h0 := h0.on b
  replace BW := Below.step BW b
  clear b
  obtain ⟨zac0, zac1, zac2, zaf0, zaf1, zaf2, zal⟩ := za.cells
  go_upto_region 4 with fail
  clear zac0 zac1 zac2 zaf0 zaf1 zaf2 zal
  obtain ⟨w3, e_w3⟩ : ∃ w', w2.alloc (.cells #[.int .i64 0, .int .i64 0, .int .i64 0] 28) = w' := ⟨_, rfl⟩
  have b : Below w2.heap.size w2 w3 := e_w3 ▸ below_lit _ _
  have hs_w3 : w3.heap.size = w2.heap.size + 1 := e_w3 ▸ size_lit w2 _ rfl
  have zf : FB w3 w2.heap.size 28 0 0 0 := e_w3 ▸ Box.made_at w2 rfl 28 (notU_int _) (notU_int _) (notU_int _)
  rw [e_w3]
  clear e_w3
  replace hT := hT.on b
  replace hF := hF.on b
  replace za := za.on b
  replace h0 := h0.on b
  replace BW := Below.step BW b
  clear b
  clear hs_w3
  go_wp2_with fail
  refine (rof_bad bits b1 b2 b3 _).mono ?_
  rintro en w4 ⟨rfl, b⟩
  replace hT := hT.on b
  replace hF := hF.on b
  replace za := za.on b
  replace h0 := h0.on b
  replace zf := zf.on b
  replace BW := Below.step BW b
  clear b
  obtain ⟨zac0, zac1, zac2, zaf0, zaf1, zaf2, zal⟩ := za.cells
  go_upto_region 5 with fail
  clear zac0 zac1 zac2 zaf0 zaf1 zaf2 zal
  obtain ⟨w5, e_w5⟩ : ∃ w', w4.alloc (.cells #[.int .i64 0, .int .i64 0, .int .i64 0] 32) = w' := ⟨_, rfl⟩
  have b : Below w4.heap.size w4 w5 := e_w5 ▸ below_lit _ _
  have hs_w5 : w5.heap.size = w4.heap.size + 1 := e_w5 ▸ size_lit w4 _ rfl
  have zr : FB w5 w4.heap.size 32 0 0 0 := e_w5 ▸ Box.made_at w4 rfl 32 (notU_int _) (notU_int _) (notU_int _)
  rw [e_w5]
  clear e_w5
  replace hT := hT.on b
  replace hF := hF.on b
  replace za := za.on b
  replace h0 := h0.on b
  replace zf := zf.on b
  replace BW := Below.step BW b
  clear b
  clear hs_w5
  obtain ⟨zac0, zac1, zac2, zaf0, zaf1, zaf2, zal⟩ := za.cells
  obtain ⟨zfc0, zfc1, zfc2, zff0, zff1, zff2, zfl⟩ := zf.cells
  obtain ⟨zrc0, zrc1, zrc2, zrf0, zrf1, zrf2, zrl⟩ := zr.cells
  go_wp2_with fail
  go_ret
  exact ⟨rfl, BW⟩
set_option maxRecDepth 100000 in
theorem nears_long {B P W M E H : Nat} {low : Int} (hf : Fm B P W M E H low) {n0 : Bool} {A0 : Option Addr} {l0 c0 x0 : Nat} {e0 : Int} {w : World} (h0 : Arg w A0 l0 c0 x0) (hT : Tab w) (hF : Frm w) (gl : decide (140 < (l0 : Int)) = true) : Calls Tryd.prog 3 #[.int .i64 (B : Int), .agg #[.bool n0, .slice A0 l0 c0, .int .i64 e0]] w fun e w' => e = .returned (.bool true) ∧ Below w.heap.size w w' := by
  go_enter Tryd.func3, Tryd.ntmps3
  go_wp2_with fail
  obtain ⟨V, hV, za, BW, sW⟩ := frame1 w 25 n0 A0 l0 c0 e0
  rw [hV]
  clear hV sW
  replace hT := hT.on BW
  replace hF := hF.on BW
  replace h0 := h0.on BW
  refine (awake4_any hT hF).mono ?_
  rintro en w1 ⟨rfl, b⟩
  replace hT := hT.on b
  replace hF := hF.on b
  replace za := za.on b
  replace h0 := h0.on b
  replace BW := Below.step BW b
  clear b
  go_wp2_with fail
  refine (of_fm hf _ hF).mono ?_
  rintro en w2 ⟨rfl, b⟩
  replace hT := hT.on b
  replace hF := hF.on b
  replace za := za.on b
  replace h0 := h0.on b
  replace BW := Below.step BW b
  clear b
  obtain ⟨zac0, zac1, zac2, zaf0, zaf1, zaf2, zal⟩ := za.cells
  go_upto_region 4 with fail
  clear zac0 zac1 zac2 zaf0 zaf1 zaf2 zal
  obtain ⟨w3, e_w3⟩ : ∃ w', w2.alloc (.cells #[.int .i64 (B : Int), .int .i64 (P : Int), .int .i64 (W : Int)] 28) = w' := ⟨_, rfl⟩
  have b : Below w2.heap.size w2 w3 := e_w3 ▸ below_lit _ _
  have hs_w3 : w3.heap.size = w2.heap.size + 1 := e_w3 ▸ size_lit w2 _ rfl
  have zf : FB w3 w2.heap.size 28 (B : Int) (P : Int) (W : Int) := e_w3 ▸ Box.made_at w2 rfl 28 (notU_int _) (notU_int _) (notU_int _)
  rw [e_w3]
  clear e_w3
  replace hT := hT.on b
  replace hF := hF.on b
  replace za := za.on b
  replace h0 := h0.on b
  replace BW := Below.step BW b
  clear b
  clear hs_w3
  go_wp2_with fail
  refine (rof_fm hf _).mono ?_
  rintro en w4 ⟨rfl, b⟩
  replace hT := hT.on b
  replace hF := hF.on b
  replace za := za.on b
  replace h0 := h0.on b
  replace zf := zf.on b
  replace BW := Below.step BW b
  clear b
  obtain ⟨zac0, zac1, zac2, zaf0, zaf1, zaf2, zal⟩ := za.cells
  go_upto_region 5 with fail
  clear zac0 zac1 zac2 zaf0 zaf1 zaf2 zal
  obtain ⟨w5, e_w5⟩ : ∃ w', w4.alloc (.cells #[.int .i64 (B : Int), .int .i64 (P : Int), .int .i64 (W : Int)] 32) = w' := ⟨_, rfl⟩
  have b : Below w4.heap.size w4 w5 := e_w5 ▸ below_lit _ _
  have hs_w5 : w5.heap.size = w4.heap.size + 1 := e_w5 ▸ size_lit w4 _ rfl
  have zr : FB w5 w4.heap.size 32 (B : Int) (P : Int) (W : Int) := e_w5 ▸ Box.made_at w4 rfl 32 (notU_int _) (notU_int _) (notU_int _)
  rw [e_w5]
  clear e_w5
  replace hT := hT.on b
  replace hF := hF.on b
  replace za := za.on b
  replace h0 := h0.on b
  replace zf := zf.on b
  replace BW := Below.step BW b
  clear b
  clear hs_w5
  obtain ⟨zac0, zac1, zac2, zaf0, zaf1, zaf2, zal⟩ := za.cells
  obtain ⟨zfc0, zfc1, zfc2, zff0, zff1, zff2, zfl⟩ := zf.cells
  obtain ⟨zrc0, zrc1, zrc2, zrf0, zrf1, zrf2, zrl⟩ := zr.cells
  go_wp2_with fail
  go_ret
  exact ⟨rfl, BW⟩
set_option maxRecDepth 100000 in
theorem nears_none {B P W M E H : Nat} {low : Int} (hf : Fm B P W M E H low) {n0 : Bool} {A0 : Option Addr} {l0 c0 x0 : Nat} {e0 : Int} {w : World} (h0 : Arg w A0 l0 c0 x0) (hT : Tab w) (hF : Frm w) (gl : decide (140 < (l0 : Int)) = false) (hb : blen x0 ≤ 4480) (HK : Hid (∀ (V : World), Arg V A0 l0 c0 x0 → l0 ≤ 30000 → Tab V → Calls Tryd.prog 12 #[.agg #[.int .i64 (B : Int), .int .i64 (P : Int), .int .i64 (W : Int)], .agg #[.bool n0, .slice A0 l0 c0, .int .i64 e0]] V (NkX V false 0 0 false 0 0 3))) (HM : Hid (mayR ⟨n0, x0, e0⟩ = false)) : Calls Tryd.prog 3 #[.int .i64 (B : Int), .agg #[.bool n0, .slice A0 l0 c0, .int .i64 e0]] w fun e w' => e = .returned (.bool true) ∧ Below w.heap.size w w' := by
  have gl' := of_decide_eq_false gl
  go_enter Tryd.func3, Tryd.ntmps3
  go_wp2_with fail
  obtain ⟨V, hV, za, BW, sW⟩ := frame1 w 25 n0 A0 l0 c0 e0
  rw [hV]
  clear hV sW
  replace hT := hT.on BW
  replace hF := hF.on BW
  replace h0 := h0.on BW
  refine (awake4_any hT hF).mono ?_
  rintro en w1 ⟨rfl, b⟩
  replace hT := hT.on b
  replace hF := hF.on b
  replace za := za.on b
  replace h0 := h0.on b
  replace BW := Below.step BW b
  clear b
  go_wp2_with fail
  refine (of_fm hf _ hF).mono ?_
  rintro en w2 ⟨rfl, b⟩
  replace hT := hT.on b
  replace hF := hF.on b
  replace za := za.on b
  replace h0 := h0.on b
  replace BW := Below.step BW b
  clear b
  obtain ⟨zac0, zac1, zac2, zaf0, zaf1, zaf2, zal⟩ := za.cells
  go_upto_region 4 with fail
  clear zac0 zac1 zac2 zaf0 zaf1 zaf2 zal
  obtain ⟨w3, e_w3⟩ : ∃ w', w2.alloc (.cells #[.int .i64 (B : Int), .int .i64 (P : Int), .int .i64 (W : Int)] 28) = w' := ⟨_, rfl⟩
  have b : Below w2.heap.size w2 w3 := e_w3 ▸ below_lit _ _
  have hs_w3 : w3.heap.size = w2.heap.size + 1 := e_w3 ▸ size_lit w2 _ rfl
  have zf : FB w3 w2.heap.size 28 (B : Int) (P : Int) (W : Int) := e_w3 ▸ Box.made_at w2 rfl 28 (notU_int _) (notU_int _) (notU_int _)
  rw [e_w3]
  clear e_w3
  replace hT := hT.on b
  replace hF := hF.on b
  replace za := za.on b
  replace h0 := h0.on b
  replace BW := Below.step BW b
  clear b
  clear hs_w3
  go_wp2_with fail
  refine (rof_fm hf _).mono ?_
  rintro en w4 ⟨rfl, b⟩
  replace hT := hT.on b
  replace hF := hF.on b
  replace za := za.on b
  replace h0 := h0.on b
  replace zf := zf.on b
  replace BW := Below.step BW b
  clear b
  obtain ⟨zac0, zac1, zac2, zaf0, zaf1, zaf2, zal⟩ := za.cells
  go_upto_region 5 with fail
  clear zac0 zac1 zac2 zaf0 zaf1 zaf2 zal
  obtain ⟨w5, e_w5⟩ : ∃ w', w4.alloc (.cells #[.int .i64 (B : Int), .int .i64 (P : Int), .int .i64 (W : Int)] 32) = w' := ⟨_, rfl⟩
  have b : Below w4.heap.size w4 w5 := e_w5 ▸ below_lit _ _
  have hs_w5 : w5.heap.size = w4.heap.size + 1 := e_w5 ▸ size_lit w4 _ rfl
  have zr : FB w5 w4.heap.size 32 (B : Int) (P : Int) (W : Int) := e_w5 ▸ Box.made_at w4 rfl 32 (notU_int _) (notU_int _) (notU_int _)
  rw [e_w5]
  clear e_w5
  replace hT := hT.on b
  replace hF := hF.on b
  replace za := za.on b
  replace h0 := h0.on b
  replace zf := zf.on b
  replace BW := Below.step BW b
  clear b
  clear hs_w5
  obtain ⟨zac0, zac1, zac2, zaf0, zaf1, zaf2, zal⟩ := za.cells
  obtain ⟨zfc0, zfc1, zfc2, zff0, zff1, zff2, zfl⟩ := zf.cells
  obtain ⟨zrc0, zrc1, zrc2, zrf0, zrf1, zrf2, zrl⟩ := zr.cells
  go_wp2_with fail
  refine (HK.out _ h0 (by omega) hT).mono ?_
  rintro en w6 ⟨VA, nA, VB, nB, rfl, rA, rB, b⟩
  clear zac0 zac1 zac2 zaf0 zaf1 zaf2 zal zfc0 zfc1 zfc2 zff0 zff1 zff2 zfl zrc0 zrc1 zrc2 zrf0 zrf1 zrf2 zrl
  replace hT := hT.on b
  replace hF := hF.on b
  replace za := za.on b
  replace h0 := h0.on b
  replace zf := zf.on b
  replace zr := zr.on b
  replace BW := Below.step BW b
  clear b
  obtain ⟨zac0, zac1, zac2, zaf0, zaf1, zaf2, zal⟩ := za.cells
  obtain ⟨zfc0, zfc1, zfc2, zff0, zff1, zff2, zfl⟩ := zf.cells
  obtain ⟨zrc0, zrc1, zrc2, zrf0, zrf1, zrf2, zrl⟩ := zr.cells
  go_upto_region 8 with fail
  clear zac0 zac1 zac2 zaf0 zaf1 zaf2 zal zfc0 zfc1 zfc2 zff0 zff1 zff2 zfl zrc0 zrc1 zrc2 zrf0 zrf1 zrf2 zrl
  obtain ⟨w7, e_w7⟩ : ∃ w', w6.alloc (dob false VA nA nA 0 25) = w' := ⟨_, rfl⟩
  have b : Below w6.heap.size w6 w7 := e_w7 ▸ below_lit _ _
  have hs_w7 : w7.heap.size = w6.heap.size + 1 := e_w7 ▸ size_lit w6 _ rfl
  have zl : DB w7 w6.heap.size 25 false VA nA nA 0 := e_w7 ▸ DB.made w6 rfl 25 false VA nA nA 0
  rw [e_w7]
  clear e_w7
  replace hT := hT.on b
  replace hF := hF.on b
  replace za := za.on b
  replace h0 := h0.on b
  replace zf := zf.on b
  replace zr := zr.on b
  replace rA := rA.on b
  replace rB := rB.on b
  replace BW := Below.step BW b
  clear b
  obtain ⟨w8, e_w8⟩ : ∃ w', w7.alloc (dob false VB nB nB 0 25) = w' := ⟨_, rfl⟩
  have b : Below w7.heap.size w7 w8 := e_w8 ▸ below_lit _ _
  have hs_w8 : w8.heap.size = (w6.heap.size + 1) + 1 := e_w8 ▸ size_lit w7 _ hs_w7
  have zh : DB w8 (w6.heap.size + 1) 25 false VB nB nB 0 := e_w8 ▸ DB.made w7 hs_w7 25 false VB nB nB 0
  rw [e_w8]
  clear e_w8
  replace hT := hT.on b
  replace hF := hF.on b
  replace za := za.on b
  replace h0 := h0.on b
  replace zf := zf.on b
  replace zr := zr.on b
  replace rA := rA.on b
  replace rB := rB.on b
  replace zl := zl.on b
  replace BW := Below.step BW b
  clear b
  clear hs_w8
  clear hs_w7
  obtain ⟨zac0, zac1, zac2, zaf0, zaf1, zaf2, zal⟩ := za.cells
  go_wp2_with fail
  refine (own4_any h0 (by omega)).mono ?_
  rintro en w9 ⟨V_o, v_o, c_o, rfl, ro, b⟩
  clear zac0 zac1 zac2 zaf0 zaf1 zaf2 zal
  replace hT := hT.on b
  replace hF := hF.on b
  replace za := za.on b
  replace h0 := h0.on b
  replace zf := zf.on b
  replace zr := zr.on b
  replace rA := rA.on b
  replace rB := rB.on b
  replace zl := zl.on b
  replace zh := zh.on b
  replace BW := Below.step BW b
  clear b
  obtain rfl : v_o = blen x0 := ro.size
  go_wp2_with fail
  refine (rmayR_as ro (by omega) false HM.out).mono ?_
  rintro en w10 ⟨rfl, b⟩
  replace hT := hT.on b
  replace hF := hF.on b
  replace za := za.on b
  replace h0 := h0.on b
  replace zf := zf.on b
  replace zr := zr.on b
  replace rA := rA.on b
  replace rB := rB.on b
  replace zl := zl.on b
  replace zh := zh.on b
  replace ro := ro.on b
  replace BW := Below.step BW b
  clear b
  obtain rfl : nA = 0 := rA.zero_n
  obtain rfl : nB = 0 := rB.zero_n
  obtain ⟨zlc0, zlc1, zlc2, zlf0, zlf1, zlf2, zll⟩ := zl.cells
  obtain ⟨zhc0, zhc1, zhc2, zhf0, zhf1, zhf2, zhl⟩ := zh.cells
  go_wp2_with fail
  go_ret
  exact ⟨rfl, BW⟩
set_option maxHeartbeats 4000000 in
set_option maxRecDepth 100000 in
theorem nears_t {B P W M E H : Nat} {low : Int} (hf : Fm B P W M E H low) {A0 : Option Addr} {l0 c0 x0 : Nat} {e0 : Int} {w : World} (h0 : Arg w A0 l0 c0 x0) (hT : Tab w) (hF : Frm w) (gl : decide (140 < (l0 : Int)) = false) (hb : blen x0 ≤ 4480) {ln hn : Bool} {lx hx : Nat} {le he : Int} (hlx : blen lx ≤ 64) (hhx : blen hx ≤ 6400) (dl : decide ((0 : Int) < (blen lx : Int)) = ln) (dh : decide ((0 : Int) < (blen hx : Int)) = hn) (dl2 : decide (0 < blen lx) = ln) (dh2 : decide (0 < blen hx) = hn) (HK : Hid (∀ (V : World), Arg V A0 l0 c0 x0 → l0 ≤ 30000 → Tab V → Calls Tryd.prog 12 #[.agg #[.int .i64 (B : Int), .int .i64 (P : Int), .int .i64 (W : Int)], .agg #[.bool true, .slice A0 l0 c0, .int .i64 e0]] V (NkX V ln lx le hn hx he 0))) (HM : Hid (mayR ⟨true, x0, e0⟩ = true))
    (HNB : Hid (∀ (V : World) (A : Option Addr) (n c : Nat), BR V A n c x0 → n ≤ 100000 → Calls Tryd.prog 15 #[.agg #[.int .i64 (B : Int), .int .i64 (P : Int), .int .i64 (W : Int)], .agg #[.bool true, .slice A n c, .int .i64 e0]] V (NBx V lx le hx he))) : Calls Tryd.prog 3 #[.int .i64 (B : Int), .agg #[.bool true, .slice A0 l0 c0, .int .i64 e0]] w fun e w' => e = .returned (.bool true) ∧ Below w.heap.size w w' := by
  have gl' := of_decide_eq_false gl
  go_enter Tryd.func3, Tryd.ntmps3
  go_wp2_with fail
  obtain ⟨V, hV, za, BW, sW⟩ := frame1 w 25 true A0 l0 c0 e0
  rw [hV]
  clear hV sW
  replace hT := hT.on BW
  replace hF := hF.on BW
  replace h0 := h0.on BW
  refine (awake4_any hT hF).mono ?_
  rintro en w1 ⟨rfl, b⟩
  replace hT := hT.on b
  replace hF := hF.on b
  replace za := za.on b
  replace h0 := h0.on b
  replace BW := Below.step BW b
  clear b
  go_wp2_with fail
  refine (of_fm hf _ hF).mono ?_
  rintro en w2 ⟨rfl, b⟩
  replace hT := hT.on b
  replace hF := hF.on b
  replace za := za.on b
  replace h0 := h0.on b
  replace BW := Below.step BW b
  clear b
  obtain ⟨zac0, zac1, zac2, zaf0, zaf1, zaf2, zal⟩ := za.cells
  go_upto_region 4 with fail
  clear zac0 zac1 zac2 zaf0 zaf1 zaf2 zal
  obtain ⟨w3, e_w3⟩ : ∃ w', w2.alloc (.cells #[.int .i64 (B : Int), .int .i64 (P : Int), .int .i64 (W : Int)] 28) = w' := ⟨_, rfl⟩
  have b : Below w2.heap.size w2 w3 := e_w3 ▸ below_lit _ _
  have hs_w3 : w3.heap.size = w2.heap.size + 1 := e_w3 ▸ size_lit w2 _ rfl
  have zf : FB w3 w2.heap.size 28 (B : Int) (P : Int) (W : Int) := e_w3 ▸ Box.made_at w2 rfl 28 (notU_int _) (notU_int _) (notU_int _)
  rw [e_w3]
  clear e_w3
  replace hT := hT.on b
  replace hF := hF.on b
  replace za := za.on b
  replace h0 := h0.on b
  replace BW := Below.step BW b
  clear b
  clear hs_w3
  go_wp2_with fail
  refine (rof_fm hf _).mono ?_
  rintro en w4 ⟨rfl, b⟩
  replace hT := hT.on b
  replace hF := hF.on b
  replace za := za.on b
  replace h0 := h0.on b
  replace zf := zf.on b
  replace BW := Below.step BW b
  clear b
  obtain ⟨zac0, zac1, zac2, zaf0, zaf1, zaf2, zal⟩ := za.cells
  go_upto_region 5 with fail
  clear zac0 zac1 zac2 zaf0 zaf1 zaf2 zal
  obtain ⟨w5, e_w5⟩ : ∃ w', w4.alloc (.cells #[.int .i64 (B : Int), .int .i64 (P : Int), .int .i64 (W : Int)] 32) = w' := ⟨_, rfl⟩
  have b : Below w4.heap.size w4 w5 := e_w5 ▸ below_lit _ _
  have hs_w5 : w5.heap.size = w4.heap.size + 1 := e_w5 ▸ size_lit w4 _ rfl
  have zr : FB w5 w4.heap.size 32 (B : Int) (P : Int) (W : Int) := e_w5 ▸ Box.made_at w4 rfl 32 (notU_int _) (notU_int _) (notU_int _)
  rw [e_w5]
  clear e_w5
  replace hT := hT.on b
  replace hF := hF.on b
  replace za := za.on b
  replace h0 := h0.on b
  replace zf := zf.on b
  replace BW := Below.step BW b
  clear b
  clear hs_w5
  obtain ⟨zac0, zac1, zac2, zaf0, zaf1, zaf2, zal⟩ := za.cells
  obtain ⟨zfc0, zfc1, zfc2, zff0, zff1, zff2, zfl⟩ := zf.cells
  obtain ⟨zrc0, zrc1, zrc2, zrf0, zrf1, zrf2, zrl⟩ := zr.cells
  go_wp2_with fail
  refine (HK.out _ h0 (by omega) hT).mono ?_
  rintro en w6 ⟨VA, nA, VB, nB, rfl, rA, rB, b⟩
  clear zac0 zac1 zac2 zaf0 zaf1 zaf2 zal zfc0 zfc1 zfc2 zff0 zff1 zff2 zfl zrc0 zrc1 zrc2 zrf0 zrf1 zrf2 zrl
  replace hT := hT.on b
  replace hF := hF.on b
  replace za := za.on b
  replace h0 := h0.on b
  replace zf := zf.on b
  replace zr := zr.on b
  replace BW := Below.step BW b
  clear b
  obtain ⟨zac0, zac1, zac2, zaf0, zaf1, zaf2, zal⟩ := za.cells
  obtain ⟨zfc0, zfc1, zfc2, zff0, zff1, zff2, zfl⟩ := zf.cells
  obtain ⟨zrc0, zrc1, zrc2, zrf0, zrf1, zrf2, zrl⟩ := zr.cells
  go_upto_region 8 with fail
  clear zac0 zac1 zac2 zaf0 zaf1 zaf2 zal zfc0 zfc1 zfc2 zff0 zff1 zff2 zfl zrc0 zrc1 zrc2 zrf0 zrf1 zrf2 zrl
  obtain ⟨w7, e_w7⟩ : ∃ w', w6.alloc (dob ln VA nA nA le 25) = w' := ⟨_, rfl⟩
  have b : Below w6.heap.size w6 w7 := e_w7 ▸ below_lit _ _
  have hs_w7 : w7.heap.size = w6.heap.size + 1 := e_w7 ▸ size_lit w6 _ rfl
  have zl : DB w7 w6.heap.size 25 ln VA nA nA le := e_w7 ▸ DB.made w6 rfl 25 ln VA nA nA le
  rw [e_w7]
  clear e_w7
  replace hT := hT.on b
  replace hF := hF.on b
  replace za := za.on b
  replace h0 := h0.on b
  replace zf := zf.on b
  replace zr := zr.on b
  replace rA := rA.on b
  replace rB := rB.on b
  replace BW := Below.step BW b
  clear b
  obtain ⟨w8, e_w8⟩ : ∃ w', w7.alloc (dob hn VB nB nB he 25) = w' := ⟨_, rfl⟩
  have b : Below w7.heap.size w7 w8 := e_w8 ▸ below_lit _ _
  have hs_w8 : w8.heap.size = (w6.heap.size + 1) + 1 := e_w8 ▸ size_lit w7 _ hs_w7
  have zh : DB w8 (w6.heap.size + 1) 25 hn VB nB nB he := e_w8 ▸ DB.made w7 hs_w7 25 hn VB nB nB he
  rw [e_w8]
  clear e_w8
  replace hT := hT.on b
  replace hF := hF.on b
  replace za := za.on b
  replace h0 := h0.on b
  replace zf := zf.on b
  replace zr := zr.on b
  replace rA := rA.on b
  replace rB := rB.on b
  replace zl := zl.on b
  replace BW := Below.step BW b
  clear b
  clear hs_w8
  clear hs_w7
  obtain ⟨zac0, zac1, zac2, zaf0, zaf1, zaf2, zal⟩ := za.cells
  go_wp2_with fail
  refine (own4_any h0 (by omega)).mono ?_
  rintro en w9 ⟨V_o, v_o, c_o, rfl, ro, b⟩
  clear zac0 zac1 zac2 zaf0 zaf1 zaf2 zal
  replace hT := hT.on b
  replace hF := hF.on b
  replace za := za.on b
  replace h0 := h0.on b
  replace zf := zf.on b
  replace zr := zr.on b
  replace rA := rA.on b
  replace rB := rB.on b
  replace zl := zl.on b
  replace zh := zh.on b
  replace BW := Below.step BW b
  clear b
  obtain rfl : v_o = blen x0 := ro.size
  go_wp2_with fail
  refine (rmayR_as ro (by omega) true HM.out).mono ?_
  rintro en w10 ⟨rfl, b⟩
  replace hT := hT.on b
  replace hF := hF.on b
  replace za := za.on b
  replace h0 := h0.on b
  replace zf := zf.on b
  replace zr := zr.on b
  replace rA := rA.on b
  replace rB := rB.on b
  replace zl := zl.on b
  replace zh := zh.on b
  replace ro := ro.on b
  replace BW := Below.step BW b
  clear b
  clear ro
  go_upto_region 10 with fail
  go_cut [12, 13] (Cut2R w10 lx le hx he)
  case first =>
    have HS : Hid (∀ w', Below w10.heap.size w10 w' → w'.cell? ⟨w4.heap.size, 0, none⟩ = some (.int .i64 (B : Int)) ∧ w'.cell? ⟨w4.heap.size, 1, none⟩ = some (.int .i64 (P : Int)) ∧ w'.cell? ⟨w4.heap.size, 2, none⟩ = some (.int .i64 (W : Int)) ∧ w'.cell? ⟨w.heap.size, 0, none⟩ = some (.bool true) ∧ w'.cell? ⟨w.heap.size, 1, none⟩ = some (.slice A0 l0 c0) ∧ w'.cell? ⟨w.heap.size, 2, none⟩ = some (.int .i64 e0)) := fun w' hb => by
      have p0 := (zr.on hb).cells
      have p1 := (za.on hb).cells
      exact ⟨p0.1, p0.2.1, p0.2.2.1, p1.1, p1.2.1, p1.2.2.1⟩
    have kk : Below w10.heap.size w10 w10.drew := (Below.refl _ _).drew
    have kd : Below w10.heap.size w10 (w10.alloc (dob false none 0 0 0 41)).drew := (below_k (Below.refl _ _) _).drew
    have ke : Below w10.heap.size w10 ((w10.alloc (dob false none 0 0 0 41)).alloc (dob false none 0 0 0 41)).drew := (below_k (below_k (Below.refl _ _) _) _).drew
    have Kh0 := Lib.hid h0
    clear hT hF za h0 zf zr rA rB zl zh BW
    go_region_held3 (fun w' => w'.cell? ⟨w4.heap.size, 0, none⟩ = some (.int .i64 (B : Int)) ∧ w'.cell? ⟨w4.heap.size, 1, none⟩ = some (.int .i64 (P : Int)) ∧ w'.cell? ⟨w4.heap.size, 2, none⟩ = some (.int .i64 (W : Int)) ∧ w'.cell? ⟨w.heap.size, 0, none⟩ = some (.bool true) ∧ w'.cell? ⟨w.heap.size, 1, none⟩ = some (.slice A0 l0 c0) ∧ w'.cell? ⟨w.heap.size, 2, none⟩ = some (.int .i64 e0))
      ((refine HS.out _ ?_; first | (with_reducible assumption) | (with_reducible exact below_k (by assumption) _) | (with_reducible exact below_k (below_k (by assumption) _) _) | ((with_reducible refine below_put3 ?_ ?_ _ _ _) <;> first | (with_reducible assumption) | omega) | ((with_reducible refine below_put3 (below_put3 ?_ ?_ _ _ _) ?_ _ _ _) <;> first | (with_reducible assumption) | omega) | ((with_reducible refine below_k (below_put3 ?_ ?_ _ _ _) _) <;> first | (with_reducible assumption) | omega)))
      (first
      | (go_at_call 14
         refine (own4_any (Kh0.out.on (by first | (with_reducible assumption) | (with_reducible exact below_k (by assumption) _) | (with_reducible exact below_k (below_k (by assumption) _) _))) (by omega)).mono ?_
         rintro e v6 ⟨B1, m1, d1, rfl, r1, b6⟩
         obtain rfl : m1 = blen x0 := r1.size
         have r1 := Lib.hid r1
         have kk := Below.step (show Below w10.heap.size w10 _ from (by first | (with_reducible assumption) | (with_reducible exact below_k (by assumption) _) | (with_reducible exact below_k (below_k (by assumption) _) _))) b6
         have hzv6 := kk.size
         first | (have zA := (((DB.made w10 rfl 41 false none 0 0 0).alloc (dob false none 0 0 0 41)).on ((Below.refl _ _).drew)).on b6; have zB := ((DB.made (w10.alloc (dob false none 0 0 0 41)) (by simp) 41 false none 0 0 0 : DB _ (w10.heap.size + 1) _ _ _ _ _ _).on ((Below.refl _ _).drew)).on b6; obtain ⟨zAp0, zAp1, zAp2, zAg0, zAg1, zAg2, zAl⟩ := zA.cells; have zA := Lib.hid zA; obtain ⟨zBp0, zBp1, zBp2, zBg0, zBg1, zBg2, zBl⟩ := zB.cells; have zB := Lib.hid zB) | (have zA := ((DB.made w10 rfl 41 false none 0 0 0).on ((Below.refl _ _).drew)).on b6; obtain ⟨zAp0, zAp1, zAp2, zAg0, zAg1, zAg2, zAl⟩ := zA.cells; have zA := Lib.hid zA) | skip
         clear b6)
      | (go_at_call 15
         refine (HNB.out _ _ _ _ (r1.out.on (by first | (with_reducible exact Below.refl _ _) | (with_reducible exact below_lit _ _) | (with_reducible exact below_k (below_lit _ _) _))) (by omega)).mono ?_
         rintro e v8 ⟨VC, nC, cC, VD, nD, cD, rfl, r3, r4, b8⟩
         have kk := Below.step (show Below w10.heap.size w10 _ from (by first | (with_reducible assumption) | (with_reducible exact below_k (by assumption) _) | (with_reducible exact below_k (below_k (by assumption) _) _))) b8
         have hzv8 := kk.size
         have r3 := Lib.hid r3
         have r4 := Lib.hid r4
         first | (have zA := zA.out.on b8; obtain ⟨zAp0, zAp1, zAp2, zAg0, zAg1, zAg2, zAl⟩ := zA.cells; have zA := Lib.hid zA; have zB := zB.out.on b8; obtain ⟨zBp0, zBp1, zBp2, zBg0, zBg1, zBg2, zBl⟩ := zB.cells; have zB := Lib.hid zB) | (have zA := ((zA.out.alloc (dob false none 0 0 0 41))).on b8; obtain ⟨zAp0, zAp1, zAp2, zAg0, zAg1, zAg2, zAl⟩ := zA.cells; have zA := Lib.hid zA; have zB := ((DB.made v6 rfl 41 false none 0 0 0)).on b8; obtain ⟨zBp0, zBp1, zBp2, zBg0, zBg1, zBg2, zBl⟩ := zB.cells; have zB := Lib.hid zB) | (have zA := zA.out.on b8; obtain ⟨zAp0, zAp1, zAp2, zAg0, zAg1, zAg2, zAl⟩ := zA.cells; have zA := Lib.hid zA) | (have zA := (((DB.made v6 rfl 41 false none 0 0 0).alloc (dob false none 0 0 0 41))).on b8; have zB := ((DB.made (v6.alloc (dob false none 0 0 0 41)) (by simp) 41 false none 0 0 0 : DB _ (v6.heap.size + 1) _ _ _ _ _ _)).on b8; obtain ⟨zAp0, zAp1, zAp2, zAg0, zAg1, zAg2, zAl⟩ := zA.cells; have zA := Lib.hid zA; obtain ⟨zBp0, zBp1, zBp2, zBg0, zBg1, zBg2, zBl⟩ := zB.cells; have zB := Lib.hid zB) | (have zA := ((DB.made v6 rfl 41 false none 0 0 0)).on b8; obtain ⟨zAp0, zAp1, zAp2, zAg0, zAg1, zAg2, zAl⟩ := zA.cells; have zA := Lib.hid zA) | skip
         clear b8))
    all_goals go_wp2_with fail
    all_goals go_meet
    all_goals (first
        | (with_reducible exact Cut2R.mk ((zA.out.put_d false VC nC cC le).other (by omega) (.bool false) (.slice VD nD cD) (.int .i64 he)) ((zB.out.other (by omega) (.bool false) (.slice VC nC cC) (.int .i64 le)).put_d false VD nD cD he) (((zB.out.other (by omega) (.bool false) (.slice VC nC cC) (.int .i64 le)).br tRD (zA.out.br tRD r3.out (.bool false) (.slice VC nC cC) (.int .i64 le)) (.bool false) (.slice VD nD cD) (.int .i64 he))) (((zB.out.other (by omega) (.bool false) (.slice VC nC cC) (.int .i64 le)).br tRD (zA.out.br tRD r4.out (.bool false) (.slice VC nC cC) (.int .i64 le)) (.bool false) (.slice VD nD cD) (.int .i64 he))) ((by first | exact Nat.le_refl _ | omega | (simp; omega))) ((by first | exact Nat.le_refl _ | omega | (simp; omega))) (below_put3 (below_put3 kk (by omega) _ _ _) (by omega) _ _ _))
        | (with_reducible exact Cut2R.mk ((zB.out.put_d false VC nC cC le).other (by omega) (.bool false) (.slice VD nD cD) (.int .i64 he)) ((zA.out.other (by omega) (.bool false) (.slice VC nC cC) (.int .i64 le)).put_d false VD nD cD he) (((zA.out.other (by omega) (.bool false) (.slice VC nC cC) (.int .i64 le)).br tRD (zB.out.br tRD r3.out (.bool false) (.slice VC nC cC) (.int .i64 le)) (.bool false) (.slice VD nD cD) (.int .i64 he))) (((zA.out.other (by omega) (.bool false) (.slice VC nC cC) (.int .i64 le)).br tRD (zB.out.br tRD r4.out (.bool false) (.slice VC nC cC) (.int .i64 le)) (.bool false) (.slice VD nD cD) (.int .i64 he))) ((by first | exact Nat.le_refl _ | omega | (simp; omega))) ((by first | exact Nat.le_refl _ | omega | (simp; omega))) (below_put3 (below_put3 kk (by omega) _ _ _) (by omega) _ _ _))
        | (with_reducible exact Cut2R.mk ((zA.out.put_d false VC nC cC le).alloc _) (DB.made _ (put3_size _ _ _ _ _) 41 false VD nD cD he) ((zA.out.br tRD r3.out (.bool false) (.slice VC nC cC) (.int .i64 le)).on (below_lit _ _)) ((zA.out.br tRD r4.out (.bool false) (.slice VC nC cC) (.int .i64 le)).on (below_lit _ _)) ((by first | exact Nat.le_refl _ | omega | (simp; omega))) ((by first | exact Nat.le_refl _ | omega | (simp; omega))) (below_k (below_put3 kk (by omega) _ _ _) _))
        | (with_reducible exact Cut2R.mk (DB.made _ (put3_size _ _ _ _ _) 41 false VC nC cC le) ((zA.out.put_d false VD nD cD he).alloc _) ((zA.out.br tRD r3.out (.bool false) (.slice VD nD cD) (.int .i64 he)).on (below_lit _ _)) ((zA.out.br tRD r4.out (.bool false) (.slice VD nD cD) (.int .i64 he)).on (below_lit _ _)) ((by first | exact Nat.le_refl _ | omega | (simp; omega))) ((by first | exact Nat.le_refl _ | omega | (simp; omega))) (below_k (below_put3 kk (by omega) _ _ _) _))
        | (with_reducible exact Cut2R.mk ((DB.made v8 rfl 41 false VC nC cC le).alloc _) (DB.made _ (by simp) 41 false VD nD cD he) ((r3.out.on (below_lit _ _)).on (below_lit _ _)) ((r4.out.on (below_lit _ _)).on (below_lit _ _)) ((by first | exact Nat.le_refl _ | omega | (simp; omega))) ((by first | exact Nat.le_refl _ | omega | (simp; omega))) (below_k (below_k kk _) _))
        | (with_reducible exact Cut2R.mk (DB.made _ (by simp) 41 false VC nC cC le) ((DB.made v8 rfl 41 false VD nD cD he).alloc _) ((r3.out.on (below_lit _ _)).on (below_lit _ _)) ((r4.out.on (below_lit _ _)).on (below_lit _ _)) ((by first | exact Nat.le_refl _ | omega | (simp; omega))) ((by first | exact Nat.le_refl _ | omega | (simp; omega))) (below_k (below_k kk _) _)))
  case rest =>
    obtain ⟨gx, Ax, nx, cx, gy, Ay, ny, cy, rfl, rfl, zx, zy, rx, ry, hg1, hg2, b⟩ := hcut
    clear hg1 hg2
    obtain ⟨w11, rfl⟩ : ∃ w11 : World, w11 = wc := ⟨_, rfl⟩
    replace hT := hT.on b
    replace hF := hF.on b
    replace za := za.on b
    replace h0 := h0.on b
    replace zf := zf.on b
    replace zr := zr.on b
    replace rA := rA.on b
    replace rB := rB.on b
    replace zl := zl.on b
    replace zh := zh.on b
    replace BW := Below.step BW b
    clear b
    obtain rfl : nx = blen lx := rx.size
    obtain rfl : ny = blen hx := ry.size
    have lA := res_n_le rA (k := 200) (by omega)
    have lB := res_n_le rB (k := 200) (by omega)
    go_wp2_with fail
    try dsimp only [List.append]
    refine region_plan [0, 1, 2, 3, 4, 5, 6, 7, 8, 9, 10, 11, 12, 13, 14, 15, 16, 17, 18, 19, 20, 21, 22, 23, 24, 25, 26, 27, 28, 29, 30, 31, 32, 33, 34, 35, 36, 37, 38, 39, 40, 41, 42, 43, 44, 45, 46, 47, 48, 49, 50, 51, 52, 53, 54, 55, 56, 57, 58] (by kernel_rfl) (by kernel_rfl) (by kernel_rfl) (by kernel_rfl) (by kernel_rfl) ?_
    dsimp only [pick, nth]
    replace hT := hT.on ((Below.refl _ _).drew : Below w11.heap.size w11 w11.drew)
    replace hF := hF.on ((Below.refl _ _).drew : Below w11.heap.size w11 w11.drew)
    replace za := za.on ((Below.refl _ _).drew : Below w11.heap.size w11 w11.drew)
    replace h0 := h0.on ((Below.refl _ _).drew : Below w11.heap.size w11 w11.drew)
    replace zf := zf.on ((Below.refl _ _).drew : Below w11.heap.size w11 w11.drew)
    replace zr := zr.on ((Below.refl _ _).drew : Below w11.heap.size w11 w11.drew)
    replace rA := rA.on ((Below.refl _ _).drew : Below w11.heap.size w11 w11.drew)
    replace rB := rB.on ((Below.refl _ _).drew : Below w11.heap.size w11 w11.drew)
    replace zl := zl.on ((Below.refl _ _).drew : Below w11.heap.size w11 w11.drew)
    replace zh := zh.on ((Below.refl _ _).drew : Below w11.heap.size w11 w11.drew)
    replace zx := zx.on ((Below.refl _ _).drew : Below w11.heap.size w11 w11.drew)
    replace zy := zy.on ((Below.refl _ _).drew : Below w11.heap.size w11 w11.drew)
    replace rx := rx.on ((Below.refl _ _).drew : Below w11.heap.size w11 w11.drew)
    replace ry := ry.on ((Below.refl _ _).drew : Below w11.heap.size w11 w11.drew)
    replace BW := Below.step BW ((Below.refl _ _).drew : Below w11.heap.size w11 w11.drew)
    obtain ⟨w12, e_w12⟩ : ∃ w', w11.drew = w' := ⟨_, rfl⟩
    rw [e_w12] at hT hF za h0 zf zr rA rB zl zh zx zy rx ry BW ⊢
    clear e_w12
    have lf0 : ∀ s : Wd w12, s.w.cell? ⟨w6.heap.size, 0, none⟩ = some (.bool ln) := fun s => (zl.on s.below).cells.1
    have lf1 : ∀ s : Wd w12, s.w.cell? ⟨w6.heap.size, 1, none⟩ = some (.slice VA nA nA) := fun s => (zl.on s.below).cells.2.1
    have lf2 : ∀ s : Wd w12, s.w.cell? ⟨w6.heap.size, 2, none⟩ = some (.int .i64 le) := fun s => (zl.on s.below).cells.2.2.1
    have lf3 : ∀ s : Wd w12, s.w.cell? ⟨(w6.heap.size + 1), 0, none⟩ = some (.bool hn) := fun s => (zh.on s.below).cells.1
    have lf4 : ∀ s : Wd w12, s.w.cell? ⟨(w6.heap.size + 1), 1, none⟩ = some (.slice VB nB nB) := fun s => (zh.on s.below).cells.2.1
    have lf5 : ∀ s : Wd w12, s.w.cell? ⟨(w6.heap.size + 1), 2, none⟩ = some (.int .i64 he) := fun s => (zh.on s.below).cells.2.2.1
    have lf6 : ∀ s : Wd w12, s.w.cell? ⟨gx, 0, none⟩ = some (.bool false) := fun s => (zx.on s.below).cells.1
    have lf7 : ∀ s : Wd w12, s.w.cell? ⟨gx, 1, none⟩ = some (.slice Ax (blen lx) cx) := fun s => (zx.on s.below).cells.2.1
    have lf8 : ∀ s : Wd w12, s.w.cell? ⟨gx, 2, none⟩ = some (.int .i64 le) := fun s => (zx.on s.below).cells.2.2.1
    have lf9 : ∀ s : Wd w12, s.w.cell? ⟨gy, 0, none⟩ = some (.bool false) := fun s => (zy.on s.below).cells.1
    have lf10 : ∀ s : Wd w12, s.w.cell? ⟨gy, 1, none⟩ = some (.slice Ay (blen hx) cy) := fun s => (zy.on s.below).cells.2.1
    have lf11 : ∀ s : Wd w12, s.w.cell? ⟨gy, 2, none⟩ = some (.int .i64 he) := fun s => (zy.on s.below).cells.2.2.1
    have lf12 : ∀ s : Wd w12, s.w.cell? ⟨w.heap.size, 0, none⟩ = some (.bool true) := fun s => (za.on s.below).cells.1
    have lf13 : ∀ s : Wd w12, s.w.cell? ⟨w.heap.size, 1, none⟩ = some (.slice A0 l0 c0) := fun s => (za.on s.below).cells.2.1
    have lf14 : ∀ s : Wd w12, s.w.cell? ⟨w.heap.size, 2, none⟩ = some (.int .i64 e0) := fun s => (za.on s.below).cells.2.2.1
    refine lex_plain 7 (by kernel_rfl) ?_
    dsimp only [List.take, List.drop]
    repeat go_big_quiet_step (fail)
    refine wpQuiet_nil ?_
    clear lf0 lf1 lf2 lf3 lf4 lf5 lf6 lf7 lf8 lf9 lf10 lf11 lf12 lf13 lf14
    refine lex_call (by kernel_rfl) (by kernel_rfl) (fun w13 b K hK => ?_)
    replace hT := hT.on b
    replace hF := hF.on b
    replace za := za.on b
    replace h0 := h0.on b
    replace zf := zf.on b
    replace zr := zr.on b
    replace rA := rA.on b
    replace rB := rB.on b
    replace zl := zl.on b
    replace zh := zh.on b
    replace zx := zx.on b
    replace zy := zy.on b
    replace rx := rx.on b
    replace ry := ry.on b
    replace BW := Below.step BW b
    clear b
    go_simp
    refine (rparts_k rx (by omega)).mono ?_
    rintro en w14 ⟨V_p, v_p, c_p, rfl, rp, b⟩
    dsimp only
    refine hK _ _ b ?_
    clear hK K
    replace hT := hT.on b
    replace hF := hF.on b
    replace za := za.on b
    replace h0 := h0.on b
    replace zf := zf.on b
    replace zr := zr.on b
    replace rA := rA.on b
    replace rB := rB.on b
    replace zl := zl.on b
    replace zh := zh.on b
    replace zx := zx.on b
    replace zy := zy.on b
    replace rx := rx.on b
    replace ry := ry.on b
    replace BW := Below.step BW b
    clear b
    have lp := res_n_le rp (k := 200) (by omega)
    refine lex_call (by kernel_rfl) (by kernel_rfl) (fun w15 b K hK => ?_)
    replace hT := hT.on b
    replace hF := hF.on b
    replace za := za.on b
    replace h0 := h0.on b
    replace zf := zf.on b
    replace zr := zr.on b
    replace rA := rA.on b
    replace rB := rB.on b
    replace zl := zl.on b
    replace zh := zh.on b
    replace zx := zx.on b
    replace zy := zy.on b
    replace rx := rx.on b
    replace ry := ry.on b
    replace rp := rp.on b
    replace BW := Below.step BW b
    clear b
    go_simp
    refine (same_res rA rp (by omega) (by omega)).mono ?_
    rintro en w16 ⟨rfl, b⟩
    dsimp only
    refine hK _ _ b ?_
    clear hK K
    replace hT := hT.on b
    replace hF := hF.on b
    replace za := za.on b
    replace h0 := h0.on b
    replace zf := zf.on b
    replace zr := zr.on b
    replace rA := rA.on b
    replace rB := rB.on b
    replace zl := zl.on b
    replace zh := zh.on b
    replace zx := zx.on b
    replace zy := zy.on b
    replace rx := rx.on b
    replace ry := ry.on b
    replace rp := rp.on b
    replace BW := Below.step BW b
    clear b
    have lf0 : ∀ s : Wd w16, s.w.cell? ⟨w6.heap.size, 0, none⟩ = some (.bool ln) := fun s => (zl.on s.below).cells.1
    have lf1 : ∀ s : Wd w16, s.w.cell? ⟨w6.heap.size, 1, none⟩ = some (.slice VA nA nA) := fun s => (zl.on s.below).cells.2.1
    have lf2 : ∀ s : Wd w16, s.w.cell? ⟨w6.heap.size, 2, none⟩ = some (.int .i64 le) := fun s => (zl.on s.below).cells.2.2.1
    have lf3 : ∀ s : Wd w16, s.w.cell? ⟨(w6.heap.size + 1), 0, none⟩ = some (.bool hn) := fun s => (zh.on s.below).cells.1
    have lf4 : ∀ s : Wd w16, s.w.cell? ⟨(w6.heap.size + 1), 1, none⟩ = some (.slice VB nB nB) := fun s => (zh.on s.below).cells.2.1
    have lf5 : ∀ s : Wd w16, s.w.cell? ⟨(w6.heap.size + 1), 2, none⟩ = some (.int .i64 he) := fun s => (zh.on s.below).cells.2.2.1
    have lf6 : ∀ s : Wd w16, s.w.cell? ⟨gx, 0, none⟩ = some (.bool false) := fun s => (zx.on s.below).cells.1
    have lf7 : ∀ s : Wd w16, s.w.cell? ⟨gx, 1, none⟩ = some (.slice Ax (blen lx) cx) := fun s => (zx.on s.below).cells.2.1
    have lf8 : ∀ s : Wd w16, s.w.cell? ⟨gx, 2, none⟩ = some (.int .i64 le) := fun s => (zx.on s.below).cells.2.2.1
    have lf9 : ∀ s : Wd w16, s.w.cell? ⟨gy, 0, none⟩ = some (.bool false) := fun s => (zy.on s.below).cells.1
    have lf10 : ∀ s : Wd w16, s.w.cell? ⟨gy, 1, none⟩ = some (.slice Ay (blen hx) cy) := fun s => (zy.on s.below).cells.2.1
    have lf11 : ∀ s : Wd w16, s.w.cell? ⟨gy, 2, none⟩ = some (.int .i64 he) := fun s => (zy.on s.below).cells.2.2.1
    have lf12 : ∀ s : Wd w16, s.w.cell? ⟨w.heap.size, 0, none⟩ = some (.bool true) := fun s => (za.on s.below).cells.1
    have lf13 : ∀ s : Wd w16, s.w.cell? ⟨w.heap.size, 1, none⟩ = some (.slice A0 l0 c0) := fun s => (za.on s.below).cells.2.1
    have lf14 : ∀ s : Wd w16, s.w.cell? ⟨w.heap.size, 2, none⟩ = some (.int .i64 e0) := fun s => (za.on s.below).cells.2.2.1
    refine lex_plain 13 (by kernel_rfl) ?_
    dsimp only [List.take, List.drop]
    repeat go_big_quiet_step (fail)
    refine wpQuiet_nil ?_
    clear lf0 lf1 lf2 lf3 lf4 lf5 lf6 lf7 lf8 lf9 lf10 lf11 lf12 lf13 lf14
    refine lex_call (by kernel_rfl) (by kernel_rfl) (fun w17 b K hK => ?_)
    replace hT := hT.on b
    replace hF := hF.on b
    replace za := za.on b
    replace h0 := h0.on b
    replace zf := zf.on b
    replace zr := zr.on b
    replace rA := rA.on b
    replace rB := rB.on b
    replace zl := zl.on b
    replace zh := zh.on b
    replace zx := zx.on b
    replace zy := zy.on b
    replace rx := rx.on b
    replace ry := ry.on b
    replace rp := rp.on b
    replace BW := Below.step BW b
    clear b
    go_simp
    refine (rparts_k ry (by omega)).mono ?_
    rintro en w18 ⟨V_q, v_q, c_q, rfl, rq, b⟩
    dsimp only
    refine hK _ _ b ?_
    clear hK K
    replace hT := hT.on b
    replace hF := hF.on b
    replace za := za.on b
    replace h0 := h0.on b
    replace zf := zf.on b
    replace zr := zr.on b
    replace rA := rA.on b
    replace rB := rB.on b
    replace zl := zl.on b
    replace zh := zh.on b
    replace zx := zx.on b
    replace zy := zy.on b
    replace rx := rx.on b
    replace ry := ry.on b
    replace rp := rp.on b
    replace BW := Below.step BW b
    clear b
    have lq := res_n_le rq (k := 200) (by omega)
    refine lex_call (by kernel_rfl) (by kernel_rfl) (fun w19 b K hK => ?_)
    replace hT := hT.on b
    replace hF := hF.on b
    replace za := za.on b
    replace h0 := h0.on b
    replace zf := zf.on b
    replace zr := zr.on b
    replace rA := rA.on b
    replace rB := rB.on b
    replace zl := zl.on b
    replace zh := zh.on b
    replace zx := zx.on b
    replace zy := zy.on b
    replace rx := rx.on b
    replace ry := ry.on b
    replace rp := rp.on b
    replace rq := rq.on b
    replace BW := Below.step BW b
    clear b
    go_simp
    refine (same_res rB rq (by omega) (by omega)).mono ?_
    rintro en w20 ⟨rfl, b⟩
    dsimp only
    refine hK _ _ b ?_
    clear hK K
    replace hT := hT.on b
    replace hF := hF.on b
    replace za := za.on b
    replace h0 := h0.on b
    replace zf := zf.on b
    replace zr := zr.on b
    replace rA := rA.on b
    replace rB := rB.on b
    replace zl := zl.on b
    replace zh := zh.on b
    replace zx := zx.on b
    replace zy := zy.on b
    replace rx := rx.on b
    replace ry := ry.on b
    replace rp := rp.on b
    replace rq := rq.on b
    replace BW := Below.step BW b
    clear b
    have lf0 : ∀ s : Wd w20, s.w.cell? ⟨w6.heap.size, 0, none⟩ = some (.bool ln) := fun s => (zl.on s.below).cells.1
    have lf1 : ∀ s : Wd w20, s.w.cell? ⟨w6.heap.size, 1, none⟩ = some (.slice VA nA nA) := fun s => (zl.on s.below).cells.2.1
    have lf2 : ∀ s : Wd w20, s.w.cell? ⟨w6.heap.size, 2, none⟩ = some (.int .i64 le) := fun s => (zl.on s.below).cells.2.2.1
    have lf3 : ∀ s : Wd w20, s.w.cell? ⟨(w6.heap.size + 1), 0, none⟩ = some (.bool hn) := fun s => (zh.on s.below).cells.1
    have lf4 : ∀ s : Wd w20, s.w.cell? ⟨(w6.heap.size + 1), 1, none⟩ = some (.slice VB nB nB) := fun s => (zh.on s.below).cells.2.1
    have lf5 : ∀ s : Wd w20, s.w.cell? ⟨(w6.heap.size + 1), 2, none⟩ = some (.int .i64 he) := fun s => (zh.on s.below).cells.2.2.1
    have lf6 : ∀ s : Wd w20, s.w.cell? ⟨gx, 0, none⟩ = some (.bool false) := fun s => (zx.on s.below).cells.1
    have lf7 : ∀ s : Wd w20, s.w.cell? ⟨gx, 1, none⟩ = some (.slice Ax (blen lx) cx) := fun s => (zx.on s.below).cells.2.1
    have lf8 : ∀ s : Wd w20, s.w.cell? ⟨gx, 2, none⟩ = some (.int .i64 le) := fun s => (zx.on s.below).cells.2.2.1
    have lf9 : ∀ s : Wd w20, s.w.cell? ⟨gy, 0, none⟩ = some (.bool false) := fun s => (zy.on s.below).cells.1
    have lf10 : ∀ s : Wd w20, s.w.cell? ⟨gy, 1, none⟩ = some (.slice Ay (blen hx) cy) := fun s => (zy.on s.below).cells.2.1
    have lf11 : ∀ s : Wd w20, s.w.cell? ⟨gy, 2, none⟩ = some (.int .i64 he) := fun s => (zy.on s.below).cells.2.2.1
    have lf12 : ∀ s : Wd w20, s.w.cell? ⟨w.heap.size, 0, none⟩ = some (.bool true) := fun s => (za.on s.below).cells.1
    have lf13 : ∀ s : Wd w20, s.w.cell? ⟨w.heap.size, 1, none⟩ = some (.slice A0 l0 c0) := fun s => (za.on s.below).cells.2.1
    have lf14 : ∀ s : Wd w20, s.w.cell? ⟨w.heap.size, 2, none⟩ = some (.int .i64 e0) := fun s => (za.on s.below).cells.2.2.1
    refine lex_plain 16 (by kernel_rfl) ?_
    dsimp only [List.take, List.drop]
    repeat go_big_quiet_step (fail)
    refine wpQuiet_nil ?_
    clear lf0 lf1 lf2 lf3 lf4 lf5 lf6 lf7 lf8 lf9 lf10 lf11 lf12 lf13 lf14
    refine lex_call (by kernel_rfl) (by kernel_rfl) (fun w21 b K hK => ?_)
    replace hT := hT.on b
    replace hF := hF.on b
    replace za := za.on b
    replace h0 := h0.on b
    replace zf := zf.on b
    replace zr := zr.on b
    replace rA := rA.on b
    replace rB := rB.on b
    replace zl := zl.on b
    replace zh := zh.on b
    replace zx := zx.on b
    replace zy := zy.on b
    replace rx := rx.on b
    replace ry := ry.on b
    replace rp := rp.on b
    replace rq := rq.on b
    replace BW := Below.step BW b
    clear b
    go_simp
    refine hK _ _ (Below.refl _ _) ?_
    clear hK K
    have lf0 : ∀ s : Wd w21, s.w.cell? ⟨w6.heap.size, 0, none⟩ = some (.bool ln) := fun s => (zl.on s.below).cells.1
    have lf1 : ∀ s : Wd w21, s.w.cell? ⟨w6.heap.size, 1, none⟩ = some (.slice VA nA nA) := fun s => (zl.on s.below).cells.2.1
    have lf2 : ∀ s : Wd w21, s.w.cell? ⟨w6.heap.size, 2, none⟩ = some (.int .i64 le) := fun s => (zl.on s.below).cells.2.2.1
    have lf3 : ∀ s : Wd w21, s.w.cell? ⟨(w6.heap.size + 1), 0, none⟩ = some (.bool hn) := fun s => (zh.on s.below).cells.1
    have lf4 : ∀ s : Wd w21, s.w.cell? ⟨(w6.heap.size + 1), 1, none⟩ = some (.slice VB nB nB) := fun s => (zh.on s.below).cells.2.1
    have lf5 : ∀ s : Wd w21, s.w.cell? ⟨(w6.heap.size + 1), 2, none⟩ = some (.int .i64 he) := fun s => (zh.on s.below).cells.2.2.1
    have lf6 : ∀ s : Wd w21, s.w.cell? ⟨gx, 0, none⟩ = some (.bool false) := fun s => (zx.on s.below).cells.1
    have lf7 : ∀ s : Wd w21, s.w.cell? ⟨gx, 1, none⟩ = some (.slice Ax (blen lx) cx) := fun s => (zx.on s.below).cells.2.1
    have lf8 : ∀ s : Wd w21, s.w.cell? ⟨gx, 2, none⟩ = some (.int .i64 le) := fun s => (zx.on s.below).cells.2.2.1
    have lf9 : ∀ s : Wd w21, s.w.cell? ⟨gy, 0, none⟩ = some (.bool false) := fun s => (zy.on s.below).cells.1
    have lf10 : ∀ s : Wd w21, s.w.cell? ⟨gy, 1, none⟩ = some (.slice Ay (blen hx) cy) := fun s => (zy.on s.below).cells.2.1
    have lf11 : ∀ s : Wd w21, s.w.cell? ⟨gy, 2, none⟩ = some (.int .i64 he) := fun s => (zy.on s.below).cells.2.2.1
    have lf12 : ∀ s : Wd w21, s.w.cell? ⟨w.heap.size, 0, none⟩ = some (.bool true) := fun s => (za.on s.below).cells.1
    have lf13 : ∀ s : Wd w21, s.w.cell? ⟨w.heap.size, 1, none⟩ = some (.slice A0 l0 c0) := fun s => (za.on s.below).cells.2.1
    have lf14 : ∀ s : Wd w21, s.w.cell? ⟨w.heap.size, 2, none⟩ = some (.int .i64 e0) := fun s => (za.on s.below).cells.2.2.1
    refine lex_plain 12 (by kernel_rfl) ?_
    dsimp only [List.take, List.drop]
    repeat go_big_quiet_step (fail)
    refine wpQuiet_nil ?_
    clear lf0 lf1 lf2 lf3 lf4 lf5 lf6 lf7 lf8 lf9 lf10 lf11 lf12 lf13 lf14
    refine lex_call (by kernel_rfl) (by kernel_rfl) (fun w22 b K hK => ?_)
    replace hT := hT.on b
    replace hF := hF.on b
    replace za := za.on b
    replace h0 := h0.on b
    replace zf := zf.on b
    replace zr := zr.on b
    replace rA := rA.on b
    replace rB := rB.on b
    replace zl := zl.on b
    replace zh := zh.on b
    replace zx := zx.on b
    replace zy := zy.on b
    replace rx := rx.on b
    replace ry := ry.on b
    replace rp := rp.on b
    replace rq := rq.on b
    replace BW := Below.step BW b
    clear b
    go_simp
    refine hK _ _ (Below.refl _ _) ?_
    clear hK K
    have lf0 : ∀ s : Wd w22, s.w.cell? ⟨w6.heap.size, 0, none⟩ = some (.bool ln) := fun s => (zl.on s.below).cells.1
    have lf1 : ∀ s : Wd w22, s.w.cell? ⟨w6.heap.size, 1, none⟩ = some (.slice VA nA nA) := fun s => (zl.on s.below).cells.2.1
    have lf2 : ∀ s : Wd w22, s.w.cell? ⟨w6.heap.size, 2, none⟩ = some (.int .i64 le) := fun s => (zl.on s.below).cells.2.2.1
    have lf3 : ∀ s : Wd w22, s.w.cell? ⟨(w6.heap.size + 1), 0, none⟩ = some (.bool hn) := fun s => (zh.on s.below).cells.1
    have lf4 : ∀ s : Wd w22, s.w.cell? ⟨(w6.heap.size + 1), 1, none⟩ = some (.slice VB nB nB) := fun s => (zh.on s.below).cells.2.1
    have lf5 : ∀ s : Wd w22, s.w.cell? ⟨(w6.heap.size + 1), 2, none⟩ = some (.int .i64 he) := fun s => (zh.on s.below).cells.2.2.1
    have lf6 : ∀ s : Wd w22, s.w.cell? ⟨gx, 0, none⟩ = some (.bool false) := fun s => (zx.on s.below).cells.1
    have lf7 : ∀ s : Wd w22, s.w.cell? ⟨gx, 1, none⟩ = some (.slice Ax (blen lx) cx) := fun s => (zx.on s.below).cells.2.1
    have lf8 : ∀ s : Wd w22, s.w.cell? ⟨gx, 2, none⟩ = some (.int .i64 le) := fun s => (zx.on s.below).cells.2.2.1
    have lf9 : ∀ s : Wd w22, s.w.cell? ⟨gy, 0, none⟩ = some (.bool false) := fun s => (zy.on s.below).cells.1
    have lf10 : ∀ s : Wd w22, s.w.cell? ⟨gy, 1, none⟩ = some (.slice Ay (blen hx) cy) := fun s => (zy.on s.below).cells.2.1
    have lf11 : ∀ s : Wd w22, s.w.cell? ⟨gy, 2, none⟩ = some (.int .i64 he) := fun s => (zy.on s.below).cells.2.2.1
    have lf12 : ∀ s : Wd w22, s.w.cell? ⟨w.heap.size, 0, none⟩ = some (.bool true) := fun s => (za.on s.below).cells.1
    have lf13 : ∀ s : Wd w22, s.w.cell? ⟨w.heap.size, 1, none⟩ = some (.slice A0 l0 c0) := fun s => (za.on s.below).cells.2.1
    have lf14 : ∀ s : Wd w22, s.w.cell? ⟨w.heap.size, 2, none⟩ = some (.int .i64 e0) := fun s => (za.on s.below).cells.2.2.1
    refine lex_plain 5 (by kernel_rfl) ?_
    dsimp only [List.take, List.drop]
    repeat go_big_quiet_step (fail)
    refine wpQuiet_nil ?_
    clear lf0 lf1 lf2 lf3 lf4 lf5 lf6 lf7 lf8 lf9 lf10 lf11 lf12 lf13 lf14
    refine lex_nil (fun w23 b => ?_)
    replace hT := hT.on b
    replace hF := hF.on b
    replace za := za.on b
    replace h0 := h0.on b
    replace zf := zf.on b
    replace zr := zr.on b
    replace rA := rA.on b
    replace rB := rB.on b
    replace zl := zl.on b
    replace zh := zh.on b
    replace zx := zx.on b
    replace zy := zy.on b
    replace rx := rx.on b
    replace ry := ry.on b
    replace rp := rp.on b
    replace rq := rq.on b
    replace BW := Below.step BW b
    clear b
    dsimp only [NoPanic]
    go_wp2_with fail
    go_ret
    exact ⟨rfl, BW⟩
set_option maxHeartbeats 4000000 in
set_option maxRecDepth 100000 in
theorem nears_f {B P W M E H : Nat} {low : Int} (hf : Fm B P W M E H low) {A0 : Option Addr} {l0 c0 x0 : Nat} {e0 : Int} {w : World} (h0 : Arg w A0 l0 c0 x0) (hT : Tab w) (hF : Frm w) (gl : decide (140 < (l0 : Int)) = false) (hb : blen x0 ≤ 4480) {lx hx : Nat} {le he : Int} (hlx : blen lx ≤ 64) (hhx : blen hx ≤ 6400)  (HK : Hid (∀ (V : World), Arg V A0 l0 c0 x0 → l0 ≤ 30000 → Tab V → Calls Tryd.prog 12 #[.agg #[.int .i64 (B : Int), .int .i64 (P : Int), .int .i64 (W : Int)], .agg #[.bool false, .slice A0 l0 c0, .int .i64 e0]] V (NkX V false lx le false hx he 0))) (HM : Hid (mayR ⟨false, x0, e0⟩ = true))
    (HNB : Hid (∀ (V : World) (A : Option Addr) (n c : Nat), BR V A n c x0 → n ≤ 100000 → Calls Tryd.prog 15 #[.agg #[.int .i64 (B : Int), .int .i64 (P : Int), .int .i64 (W : Int)], .agg #[.bool false, .slice A n c, .int .i64 e0]] V (NBx V lx le hx he))) : Calls Tryd.prog 3 #[.int .i64 (B : Int), .agg #[.bool false, .slice A0 l0 c0, .int .i64 e0]] w fun e w' => e = .returned (.bool true) ∧ Below w.heap.size w w' := by
  have gl' := of_decide_eq_false gl
  go_enter Tryd.func3, Tryd.ntmps3
  go_wp2_with fail
  obtain ⟨V, hV, za, BW, sW⟩ := frame1 w 25 false A0 l0 c0 e0
  rw [hV]
  clear hV sW
  replace hT := hT.on BW
  replace hF := hF.on BW
  replace h0 := h0.on BW
  refine (awake4_any hT hF).mono ?_
  rintro en w1 ⟨rfl, b⟩
  replace hT := hT.on b
  replace hF := hF.on b
  replace za := za.on b
  replace h0 := h0.on b
  replace BW := Below.step BW b
  clear b
  go_wp2_with fail
  refine (of_fm hf _ hF).mono ?_
  rintro en w2 ⟨rfl, b⟩
  replace hT := hT.on b
  replace hF := hF.on b
  replace za := za.on b
  replace h0 := h0.on b
  replace BW := Below.step BW b
  clear b
  obtain ⟨zac0, zac1, zac2, zaf0, zaf1, zaf2, zal⟩ := za.cells
  go_upto_region 4 with fail
  clear zac0 zac1 zac2 zaf0 zaf1 zaf2 zal
  obtain ⟨w3, e_w3⟩ : ∃ w', w2.alloc (.cells #[.int .i64 (B : Int), .int .i64 (P : Int), .int .i64 (W : Int)] 28) = w' := ⟨_, rfl⟩
  have b : Below w2.heap.size w2 w3 := e_w3 ▸ below_lit _ _
  have hs_w3 : w3.heap.size = w2.heap.size + 1 := e_w3 ▸ size_lit w2 _ rfl
  have zf : FB w3 w2.heap.size 28 (B : Int) (P : Int) (W : Int) := e_w3 ▸ Box.made_at w2 rfl 28 (notU_int _) (notU_int _) (notU_int _)
  rw [e_w3]
  clear e_w3
  replace hT := hT.on b
  replace hF := hF.on b
  replace za := za.on b
  replace h0 := h0.on b
  replace BW := Below.step BW b
  clear b
  clear hs_w3
  go_wp2_with fail
  refine (rof_fm hf _).mono ?_
  rintro en w4 ⟨rfl, b⟩
  replace hT := hT.on b
  replace hF := hF.on b
  replace za := za.on b
  replace h0 := h0.on b
  replace zf := zf.on b
  replace BW := Below.step BW b
  clear b
  obtain ⟨zac0, zac1, zac2, zaf0, zaf1, zaf2, zal⟩ := za.cells
  go_upto_region 5 with fail
  clear zac0 zac1 zac2 zaf0 zaf1 zaf2 zal
  obtain ⟨w5, e_w5⟩ : ∃ w', w4.alloc (.cells #[.int .i64 (B : Int), .int .i64 (P : Int), .int .i64 (W : Int)] 32) = w' := ⟨_, rfl⟩
  have b : Below w4.heap.size w4 w5 := e_w5 ▸ below_lit _ _
  have hs_w5 : w5.heap.size = w4.heap.size + 1 := e_w5 ▸ size_lit w4 _ rfl
  have zr : FB w5 w4.heap.size 32 (B : Int) (P : Int) (W : Int) := e_w5 ▸ Box.made_at w4 rfl 32 (notU_int _) (notU_int _) (notU_int _)
  rw [e_w5]
  clear e_w5
  replace hT := hT.on b
  replace hF := hF.on b
  replace za := za.on b
  replace h0 := h0.on b
  replace zf := zf.on b
  replace BW := Below.step BW b
  clear b
  clear hs_w5
  obtain ⟨zac0, zac1, zac2, zaf0, zaf1, zaf2, zal⟩ := za.cells
  obtain ⟨zfc0, zfc1, zfc2, zff0, zff1, zff2, zfl⟩ := zf.cells
  obtain ⟨zrc0, zrc1, zrc2, zrf0, zrf1, zrf2, zrl⟩ := zr.cells
  go_wp2_with fail
  refine (HK.out _ h0 (by omega) hT).mono ?_
  rintro en w6 ⟨VA, nA, VB, nB, rfl, rA, rB, b⟩
  clear zac0 zac1 zac2 zaf0 zaf1 zaf2 zal zfc0 zfc1 zfc2 zff0 zff1 zff2 zfl zrc0 zrc1 zrc2 zrf0 zrf1 zrf2 zrl
  replace hT := hT.on b
  replace hF := hF.on b
  replace za := za.on b
  replace h0 := h0.on b
  replace zf := zf.on b
  replace zr := zr.on b
  replace BW := Below.step BW b
  clear b
  obtain ⟨zac0, zac1, zac2, zaf0, zaf1, zaf2, zal⟩ := za.cells
  obtain ⟨zfc0, zfc1, zfc2, zff0, zff1, zff2, zfl⟩ := zf.cells
  obtain ⟨zrc0, zrc1, zrc2, zrf0, zrf1, zrf2, zrl⟩ := zr.cells
  go_upto_region 8 with fail
  clear zac0 zac1 zac2 zaf0 zaf1 zaf2 zal zfc0 zfc1 zfc2 zff0 zff1 zff2 zfl zrc0 zrc1 zrc2 zrf0 zrf1 zrf2 zrl
  obtain ⟨w7, e_w7⟩ : ∃ w', w6.alloc (dob false VA nA nA le 25) = w' := ⟨_, rfl⟩
  have b : Below w6.heap.size w6 w7 := e_w7 ▸ below_lit _ _
  have hs_w7 : w7.heap.size = w6.heap.size + 1 := e_w7 ▸ size_lit w6 _ rfl
  have zl : DB w7 w6.heap.size 25 false VA nA nA le := e_w7 ▸ DB.made w6 rfl 25 false VA nA nA le
  rw [e_w7]
  clear e_w7
  replace hT := hT.on b
  replace hF := hF.on b
  replace za := za.on b
  replace h0 := h0.on b
  replace zf := zf.on b
  replace zr := zr.on b
  replace rA := rA.on b
  replace rB := rB.on b
  replace BW := Below.step BW b
  clear b
  obtain ⟨w8, e_w8⟩ : ∃ w', w7.alloc (dob false VB nB nB he 25) = w' := ⟨_, rfl⟩
  have b : Below w7.heap.size w7 w8 := e_w8 ▸ below_lit _ _
  have hs_w8 : w8.heap.size = (w6.heap.size + 1) + 1 := e_w8 ▸ size_lit w7 _ hs_w7
  have zh : DB w8 (w6.heap.size + 1) 25 false VB nB nB he := e_w8 ▸ DB.made w7 hs_w7 25 false VB nB nB he
  rw [e_w8]
  clear e_w8
  replace hT := hT.on b
  replace hF := hF.on b
  replace za := za.on b
  replace h0 := h0.on b
  replace zf := zf.on b
  replace zr := zr.on b
  replace rA := rA.on b
  replace rB := rB.on b
  replace zl := zl.on b
  replace BW := Below.step BW b
  clear b
  clear hs_w8
  clear hs_w7
  obtain ⟨zac0, zac1, zac2, zaf0, zaf1, zaf2, zal⟩ := za.cells
  go_wp2_with fail
  refine (own4_any h0 (by omega)).mono ?_
  rintro en w9 ⟨V_o, v_o, c_o, rfl, ro, b⟩
  clear zac0 zac1 zac2 zaf0 zaf1 zaf2 zal
  replace hT := hT.on b
  replace hF := hF.on b
  replace za := za.on b
  replace h0 := h0.on b
  replace zf := zf.on b
  replace zr := zr.on b
  replace rA := rA.on b
  replace rB := rB.on b
  replace zl := zl.on b
  replace zh := zh.on b
  replace BW := Below.step BW b
  clear b
  obtain rfl : v_o = blen x0 := ro.size
  go_wp2_with fail
  refine (rmayR_as ro (by omega) true HM.out).mono ?_
  rintro en w10 ⟨rfl, b⟩
  replace hT := hT.on b
  replace hF := hF.on b
  replace za := za.on b
  replace h0 := h0.on b
  replace zf := zf.on b
  replace zr := zr.on b
  replace rA := rA.on b
  replace rB := rB.on b
  replace zl := zl.on b
  replace zh := zh.on b
  replace ro := ro.on b
  replace BW := Below.step BW b
  clear b
  clear ro
  go_upto_region 10 with fail
  go_cut [12, 13] (Cut2R w10 lx le hx he)
  case first =>
    have HS : Hid (∀ w', Below w10.heap.size w10 w' → w'.cell? ⟨w4.heap.size, 0, none⟩ = some (.int .i64 (B : Int)) ∧ w'.cell? ⟨w4.heap.size, 1, none⟩ = some (.int .i64 (P : Int)) ∧ w'.cell? ⟨w4.heap.size, 2, none⟩ = some (.int .i64 (W : Int)) ∧ w'.cell? ⟨w.heap.size, 0, none⟩ = some (.bool false) ∧ w'.cell? ⟨w.heap.size, 1, none⟩ = some (.slice A0 l0 c0) ∧ w'.cell? ⟨w.heap.size, 2, none⟩ = some (.int .i64 e0)) := fun w' hb => by
      have p0 := (zr.on hb).cells
      have p1 := (za.on hb).cells
      exact ⟨p0.1, p0.2.1, p0.2.2.1, p1.1, p1.2.1, p1.2.2.1⟩
    have kk : Below w10.heap.size w10 w10.drew := (Below.refl _ _).drew
    have kd : Below w10.heap.size w10 (w10.alloc (dob false none 0 0 0 41)).drew := (below_k (Below.refl _ _) _).drew
    have ke : Below w10.heap.size w10 ((w10.alloc (dob false none 0 0 0 41)).alloc (dob false none 0 0 0 41)).drew := (below_k (below_k (Below.refl _ _) _) _).drew
    have Kh0 := Lib.hid h0
    clear hT hF za h0 zf zr rA rB zl zh BW
    go_region_held3 (fun w' => w'.cell? ⟨w4.heap.size, 0, none⟩ = some (.int .i64 (B : Int)) ∧ w'.cell? ⟨w4.heap.size, 1, none⟩ = some (.int .i64 (P : Int)) ∧ w'.cell? ⟨w4.heap.size, 2, none⟩ = some (.int .i64 (W : Int)) ∧ w'.cell? ⟨w.heap.size, 0, none⟩ = some (.bool false) ∧ w'.cell? ⟨w.heap.size, 1, none⟩ = some (.slice A0 l0 c0) ∧ w'.cell? ⟨w.heap.size, 2, none⟩ = some (.int .i64 e0))
      ((refine HS.out _ ?_; first | (with_reducible assumption) | (with_reducible exact below_k (by assumption) _) | (with_reducible exact below_k (below_k (by assumption) _) _) | ((with_reducible refine below_put3 ?_ ?_ _ _ _) <;> first | (with_reducible assumption) | omega) | ((with_reducible refine below_put3 (below_put3 ?_ ?_ _ _ _) ?_ _ _ _) <;> first | (with_reducible assumption) | omega) | ((with_reducible refine below_k (below_put3 ?_ ?_ _ _ _) _) <;> first | (with_reducible assumption) | omega)))
      (first
      | (go_at_call 14
         refine (own4_any (Kh0.out.on (by first | (with_reducible assumption) | (with_reducible exact below_k (by assumption) _) | (with_reducible exact below_k (below_k (by assumption) _) _))) (by omega)).mono ?_
         rintro e v6 ⟨B1, m1, d1, rfl, r1, b6⟩
         obtain rfl : m1 = blen x0 := r1.size
         have r1 := Lib.hid r1
         have kk := Below.step (show Below w10.heap.size w10 _ from (by first | (with_reducible assumption) | (with_reducible exact below_k (by assumption) _) | (with_reducible exact below_k (below_k (by assumption) _) _))) b6
         have hzv6 := kk.size
         first | (have zA := (((DB.made w10 rfl 41 false none 0 0 0).alloc (dob false none 0 0 0 41)).on ((Below.refl _ _).drew)).on b6; have zB := ((DB.made (w10.alloc (dob false none 0 0 0 41)) (by simp) 41 false none 0 0 0 : DB _ (w10.heap.size + 1) _ _ _ _ _ _).on ((Below.refl _ _).drew)).on b6; obtain ⟨zAp0, zAp1, zAp2, zAg0, zAg1, zAg2, zAl⟩ := zA.cells; have zA := Lib.hid zA; obtain ⟨zBp0, zBp1, zBp2, zBg0, zBg1, zBg2, zBl⟩ := zB.cells; have zB := Lib.hid zB) | (have zA := ((DB.made w10 rfl 41 false none 0 0 0).on ((Below.refl _ _).drew)).on b6; obtain ⟨zAp0, zAp1, zAp2, zAg0, zAg1, zAg2, zAl⟩ := zA.cells; have zA := Lib.hid zA) | skip
         clear b6)
      | (go_at_call 15
         refine (HNB.out _ _ _ _ (r1.out.on (by first | (with_reducible exact Below.refl _ _) | (with_reducible exact below_lit _ _) | (with_reducible exact below_k (below_lit _ _) _))) (by omega)).mono ?_
         rintro e v8 ⟨VC, nC, cC, VD, nD, cD, rfl, r3, r4, b8⟩
         have kk := Below.step (show Below w10.heap.size w10 _ from (by first | (with_reducible assumption) | (with_reducible exact below_k (by assumption) _) | (with_reducible exact below_k (below_k (by assumption) _) _))) b8
         have hzv8 := kk.size
         have r3 := Lib.hid r3
         have r4 := Lib.hid r4
         first | (have zA := zA.out.on b8; obtain ⟨zAp0, zAp1, zAp2, zAg0, zAg1, zAg2, zAl⟩ := zA.cells; have zA := Lib.hid zA; have zB := zB.out.on b8; obtain ⟨zBp0, zBp1, zBp2, zBg0, zBg1, zBg2, zBl⟩ := zB.cells; have zB := Lib.hid zB) | (have zA := ((zA.out.alloc (dob false none 0 0 0 41))).on b8; obtain ⟨zAp0, zAp1, zAp2, zAg0, zAg1, zAg2, zAl⟩ := zA.cells; have zA := Lib.hid zA; have zB := ((DB.made v6 rfl 41 false none 0 0 0)).on b8; obtain ⟨zBp0, zBp1, zBp2, zBg0, zBg1, zBg2, zBl⟩ := zB.cells; have zB := Lib.hid zB) | (have zA := zA.out.on b8; obtain ⟨zAp0, zAp1, zAp2, zAg0, zAg1, zAg2, zAl⟩ := zA.cells; have zA := Lib.hid zA) | (have zA := (((DB.made v6 rfl 41 false none 0 0 0).alloc (dob false none 0 0 0 41))).on b8; have zB := ((DB.made (v6.alloc (dob false none 0 0 0 41)) (by simp) 41 false none 0 0 0 : DB _ (v6.heap.size + 1) _ _ _ _ _ _)).on b8; obtain ⟨zAp0, zAp1, zAp2, zAg0, zAg1, zAg2, zAl⟩ := zA.cells; have zA := Lib.hid zA; obtain ⟨zBp0, zBp1, zBp2, zBg0, zBg1, zBg2, zBl⟩ := zB.cells; have zB := Lib.hid zB) | (have zA := ((DB.made v6 rfl 41 false none 0 0 0)).on b8; obtain ⟨zAp0, zAp1, zAp2, zAg0, zAg1, zAg2, zAl⟩ := zA.cells; have zA := Lib.hid zA) | skip
         clear b8))
    all_goals go_wp2_with fail
    all_goals go_meet
    all_goals (first
        | (with_reducible exact Cut2R.mk ((zA.out.put_d false VC nC cC le).other (by omega) (.bool false) (.slice VD nD cD) (.int .i64 he)) ((zB.out.other (by omega) (.bool false) (.slice VC nC cC) (.int .i64 le)).put_d false VD nD cD he) (((zB.out.other (by omega) (.bool false) (.slice VC nC cC) (.int .i64 le)).br tRD (zA.out.br tRD r3.out (.bool false) (.slice VC nC cC) (.int .i64 le)) (.bool false) (.slice VD nD cD) (.int .i64 he))) (((zB.out.other (by omega) (.bool false) (.slice VC nC cC) (.int .i64 le)).br tRD (zA.out.br tRD r4.out (.bool false) (.slice VC nC cC) (.int .i64 le)) (.bool false) (.slice VD nD cD) (.int .i64 he))) ((by first | exact Nat.le_refl _ | omega | (simp; omega))) ((by first | exact Nat.le_refl _ | omega | (simp; omega))) (below_put3 (below_put3 kk (by omega) _ _ _) (by omega) _ _ _))
        | (with_reducible exact Cut2R.mk ((zB.out.put_d false VC nC cC le).other (by omega) (.bool false) (.slice VD nD cD) (.int .i64 he)) ((zA.out.other (by omega) (.bool false) (.slice VC nC cC) (.int .i64 le)).put_d false VD nD cD he) (((zA.out.other (by omega) (.bool false) (.slice VC nC cC) (.int .i64 le)).br tRD (zB.out.br tRD r3.out (.bool false) (.slice VC nC cC) (.int .i64 le)) (.bool false) (.slice VD nD cD) (.int .i64 he))) (((zA.out.other (by omega) (.bool false) (.slice VC nC cC) (.int .i64 le)).br tRD (zB.out.br tRD r4.out (.bool false) (.slice VC nC cC) (.int .i64 le)) (.bool false) (.slice VD nD cD) (.int .i64 he))) ((by first | exact Nat.le_refl _ | omega | (simp; omega))) ((by first | exact Nat.le_refl _ | omega | (simp; omega))) (below_put3 (below_put3 kk (by omega) _ _ _) (by omega) _ _ _))
        | (with_reducible exact Cut2R.mk ((zA.out.put_d false VC nC cC le).alloc _) (DB.made _ (put3_size _ _ _ _ _) 41 false VD nD cD he) ((zA.out.br tRD r3.out (.bool false) (.slice VC nC cC) (.int .i64 le)).on (below_lit _ _)) ((zA.out.br tRD r4.out (.bool false) (.slice VC nC cC) (.int .i64 le)).on (below_lit _ _)) ((by first | exact Nat.le_refl _ | omega | (simp; omega))) ((by first | exact Nat.le_refl _ | omega | (simp; omega))) (below_k (below_put3 kk (by omega) _ _ _) _))
        | (with_reducible exact Cut2R.mk (DB.made _ (put3_size _ _ _ _ _) 41 false VC nC cC le) ((zA.out.put_d false VD nD cD he).alloc _) ((zA.out.br tRD r3.out (.bool false) (.slice VD nD cD) (.int .i64 he)).on (below_lit _ _)) ((zA.out.br tRD r4.out (.bool false) (.slice VD nD cD) (.int .i64 he)).on (below_lit _ _)) ((by first | exact Nat.le_refl _ | omega | (simp; omega))) ((by first | exact Nat.le_refl _ | omega | (simp; omega))) (below_k (below_put3 kk (by omega) _ _ _) _))
        | (with_reducible exact Cut2R.mk ((DB.made v8 rfl 41 false VC nC cC le).alloc _) (DB.made _ (by simp) 41 false VD nD cD he) ((r3.out.on (below_lit _ _)).on (below_lit _ _)) ((r4.out.on (below_lit _ _)).on (below_lit _ _)) ((by first | exact Nat.le_refl _ | omega | (simp; omega))) ((by first | exact Nat.le_refl _ | omega | (simp; omega))) (below_k (below_k kk _) _))
        | (with_reducible exact Cut2R.mk (DB.made _ (by simp) 41 false VC nC cC le) ((DB.made v8 rfl 41 false VD nD cD he).alloc _) ((r3.out.on (below_lit _ _)).on (below_lit _ _)) ((r4.out.on (below_lit _ _)).on (below_lit _ _)) ((by first | exact Nat.le_refl _ | omega | (simp; omega))) ((by first | exact Nat.le_refl _ | omega | (simp; omega))) (below_k (below_k kk _) _)))
  case rest =>
    obtain ⟨gx, Ax, nx, cx, gy, Ay, ny, cy, rfl, rfl, zx, zy, rx, ry, hg1, hg2, b⟩ := hcut
    clear hg1 hg2
    obtain ⟨w11, rfl⟩ : ∃ w11 : World, w11 = wc := ⟨_, rfl⟩
    replace hT := hT.on b
    replace hF := hF.on b
    replace za := za.on b
    replace h0 := h0.on b
    replace zf := zf.on b
    replace zr := zr.on b
    replace rA := rA.on b
    replace rB := rB.on b
    replace zl := zl.on b
    replace zh := zh.on b
    replace BW := Below.step BW b
    clear b
    obtain rfl : nx = blen lx := rx.size
    obtain rfl : ny = blen hx := ry.size
    have lA := res_n_le rA (k := 200) (by omega)
    have lB := res_n_le rB (k := 200) (by omega)
    go_wp2_with fail
    try dsimp only [List.append]
    refine region_plan [0, 1, 2, 3, 4, 5, 6, 7, 8, 9, 10, 11, 12, 13, 14, 15, 16, 17, 18, 19, 20, 21, 22, 23, 24, 25, 26, 27, 28, 29, 30, 31, 32, 33, 34, 35, 36, 37, 38, 39, 40, 41, 42, 43, 44, 45, 46, 47, 48, 49, 50, 51, 52, 53, 54, 55, 56, 57, 58] (by kernel_rfl) (by kernel_rfl) (by kernel_rfl) (by kernel_rfl) (by kernel_rfl) ?_
    dsimp only [pick, nth]
    replace hT := hT.on ((Below.refl _ _).drew : Below w11.heap.size w11 w11.drew)
    replace hF := hF.on ((Below.refl _ _).drew : Below w11.heap.size w11 w11.drew)
    replace za := za.on ((Below.refl _ _).drew : Below w11.heap.size w11 w11.drew)
    replace h0 := h0.on ((Below.refl _ _).drew : Below w11.heap.size w11 w11.drew)
    replace zf := zf.on ((Below.refl _ _).drew : Below w11.heap.size w11 w11.drew)
    replace zr := zr.on ((Below.refl _ _).drew : Below w11.heap.size w11 w11.drew)
    replace rA := rA.on ((Below.refl _ _).drew : Below w11.heap.size w11 w11.drew)
    replace rB := rB.on ((Below.refl _ _).drew : Below w11.heap.size w11 w11.drew)
    replace zl := zl.on ((Below.refl _ _).drew : Below w11.heap.size w11 w11.drew)
    replace zh := zh.on ((Below.refl _ _).drew : Below w11.heap.size w11 w11.drew)
    replace zx := zx.on ((Below.refl _ _).drew : Below w11.heap.size w11 w11.drew)
    replace zy := zy.on ((Below.refl _ _).drew : Below w11.heap.size w11 w11.drew)
    replace rx := rx.on ((Below.refl _ _).drew : Below w11.heap.size w11 w11.drew)
    replace ry := ry.on ((Below.refl _ _).drew : Below w11.heap.size w11 w11.drew)
    replace BW := Below.step BW ((Below.refl _ _).drew : Below w11.heap.size w11 w11.drew)
    obtain ⟨w12, e_w12⟩ : ∃ w', w11.drew = w' := ⟨_, rfl⟩
    rw [e_w12] at hT hF za h0 zf zr rA rB zl zh zx zy rx ry BW ⊢
    clear e_w12
    have lf0 : ∀ s : Wd w12, s.w.cell? ⟨w6.heap.size, 0, none⟩ = some (.bool false) := fun s => (zl.on s.below).cells.1
    have lf1 : ∀ s : Wd w12, s.w.cell? ⟨w6.heap.size, 1, none⟩ = some (.slice VA nA nA) := fun s => (zl.on s.below).cells.2.1
    have lf2 : ∀ s : Wd w12, s.w.cell? ⟨w6.heap.size, 2, none⟩ = some (.int .i64 le) := fun s => (zl.on s.below).cells.2.2.1
    have lf3 : ∀ s : Wd w12, s.w.cell? ⟨(w6.heap.size + 1), 0, none⟩ = some (.bool false) := fun s => (zh.on s.below).cells.1
    have lf4 : ∀ s : Wd w12, s.w.cell? ⟨(w6.heap.size + 1), 1, none⟩ = some (.slice VB nB nB) := fun s => (zh.on s.below).cells.2.1
    have lf5 : ∀ s : Wd w12, s.w.cell? ⟨(w6.heap.size + 1), 2, none⟩ = some (.int .i64 he) := fun s => (zh.on s.below).cells.2.2.1
    have lf6 : ∀ s : Wd w12, s.w.cell? ⟨gx, 0, none⟩ = some (.bool false) := fun s => (zx.on s.below).cells.1
    have lf7 : ∀ s : Wd w12, s.w.cell? ⟨gx, 1, none⟩ = some (.slice Ax (blen lx) cx) := fun s => (zx.on s.below).cells.2.1
    have lf8 : ∀ s : Wd w12, s.w.cell? ⟨gx, 2, none⟩ = some (.int .i64 le) := fun s => (zx.on s.below).cells.2.2.1
    have lf9 : ∀ s : Wd w12, s.w.cell? ⟨gy, 0, none⟩ = some (.bool false) := fun s => (zy.on s.below).cells.1
    have lf10 : ∀ s : Wd w12, s.w.cell? ⟨gy, 1, none⟩ = some (.slice Ay (blen hx) cy) := fun s => (zy.on s.below).cells.2.1
    have lf11 : ∀ s : Wd w12, s.w.cell? ⟨gy, 2, none⟩ = some (.int .i64 he) := fun s => (zy.on s.below).cells.2.2.1
    have lf12 : ∀ s : Wd w12, s.w.cell? ⟨w.heap.size, 0, none⟩ = some (.bool false) := fun s => (za.on s.below).cells.1
    have lf13 : ∀ s : Wd w12, s.w.cell? ⟨w.heap.size, 1, none⟩ = some (.slice A0 l0 c0) := fun s => (za.on s.below).cells.2.1
    have lf14 : ∀ s : Wd w12, s.w.cell? ⟨w.heap.size, 2, none⟩ = some (.int .i64 e0) := fun s => (za.on s.below).cells.2.2.1
    refine lex_plain 7 (by kernel_rfl) ?_
    dsimp only [List.take, List.drop]
    repeat go_big_quiet_step (fail)
    refine wpQuiet_nil ?_
    clear lf0 lf1 lf2 lf3 lf4 lf5 lf6 lf7 lf8 lf9 lf10 lf11 lf12 lf13 lf14
    refine lex_call (by kernel_rfl) (by kernel_rfl) (fun w13 b K hK => ?_)
    replace hT := hT.on b
    replace hF := hF.on b
    replace za := za.on b
    replace h0 := h0.on b
    replace zf := zf.on b
    replace zr := zr.on b
    replace rA := rA.on b
    replace rB := rB.on b
    replace zl := zl.on b
    replace zh := zh.on b
    replace zx := zx.on b
    replace zy := zy.on b
    replace rx := rx.on b
    replace ry := ry.on b
    replace BW := Below.step BW b
    clear b
    go_simp
    refine (rparts_k rx (by omega)).mono ?_
    rintro en w14 ⟨V_p, v_p, c_p, rfl, rp, b⟩
    dsimp only
    refine hK _ _ b ?_
    clear hK K
    replace hT := hT.on b
    replace hF := hF.on b
    replace za := za.on b
    replace h0 := h0.on b
    replace zf := zf.on b
    replace zr := zr.on b
    replace rA := rA.on b
    replace rB := rB.on b
    replace zl := zl.on b
    replace zh := zh.on b
    replace zx := zx.on b
    replace zy := zy.on b
    replace rx := rx.on b
    replace ry := ry.on b
    replace BW := Below.step BW b
    clear b
    have lp := res_n_le rp (k := 200) (by omega)
    refine lex_call (by kernel_rfl) (by kernel_rfl) (fun w15 b K hK => ?_)
    replace hT := hT.on b
    replace hF := hF.on b
    replace za := za.on b
    replace h0 := h0.on b
    replace zf := zf.on b
    replace zr := zr.on b
    replace rA := rA.on b
    replace rB := rB.on b
    replace zl := zl.on b
    replace zh := zh.on b
    replace zx := zx.on b
    replace zy := zy.on b
    replace rx := rx.on b
    replace ry := ry.on b
    replace rp := rp.on b
    replace BW := Below.step BW b
    clear b
    go_simp
    refine (same_res rA rp (by omega) (by omega)).mono ?_
    rintro en w16 ⟨rfl, b⟩
    dsimp only
    refine hK _ _ b ?_
    clear hK K
    replace hT := hT.on b
    replace hF := hF.on b
    replace za := za.on b
    replace h0 := h0.on b
    replace zf := zf.on b
    replace zr := zr.on b
    replace rA := rA.on b
    replace rB := rB.on b
    replace zl := zl.on b
    replace zh := zh.on b
    replace zx := zx.on b
    replace zy := zy.on b
    replace rx := rx.on b
    replace ry := ry.on b
    replace rp := rp.on b
    replace BW := Below.step BW b
    clear b
    have lf0 : ∀ s : Wd w16, s.w.cell? ⟨w6.heap.size, 0, none⟩ = some (.bool false) := fun s => (zl.on s.below).cells.1
    have lf1 : ∀ s : Wd w16, s.w.cell? ⟨w6.heap.size, 1, none⟩ = some (.slice VA nA nA) := fun s => (zl.on s.below).cells.2.1
    have lf2 : ∀ s : Wd w16, s.w.cell? ⟨w6.heap.size, 2, none⟩ = some (.int .i64 le) := fun s => (zl.on s.below).cells.2.2.1
    have lf3 : ∀ s : Wd w16, s.w.cell? ⟨(w6.heap.size + 1), 0, none⟩ = some (.bool false) := fun s => (zh.on s.below).cells.1
    have lf4 : ∀ s : Wd w16, s.w.cell? ⟨(w6.heap.size + 1), 1, none⟩ = some (.slice VB nB nB) := fun s => (zh.on s.below).cells.2.1
    have lf5 : ∀ s : Wd w16, s.w.cell? ⟨(w6.heap.size + 1), 2, none⟩ = some (.int .i64 he) := fun s => (zh.on s.below).cells.2.2.1
    have lf6 : ∀ s : Wd w16, s.w.cell? ⟨gx, 0, none⟩ = some (.bool false) := fun s => (zx.on s.below).cells.1
    have lf7 : ∀ s : Wd w16, s.w.cell? ⟨gx, 1, none⟩ = some (.slice Ax (blen lx) cx) := fun s => (zx.on s.below).cells.2.1
    have lf8 : ∀ s : Wd w16, s.w.cell? ⟨gx, 2, none⟩ = some (.int .i64 le) := fun s => (zx.on s.below).cells.2.2.1
    have lf9 : ∀ s : Wd w16, s.w.cell? ⟨gy, 0, none⟩ = some (.bool false) := fun s => (zy.on s.below).cells.1
    have lf10 : ∀ s : Wd w16, s.w.cell? ⟨gy, 1, none⟩ = some (.slice Ay (blen hx) cy) := fun s => (zy.on s.below).cells.2.1
    have lf11 : ∀ s : Wd w16, s.w.cell? ⟨gy, 2, none⟩ = some (.int .i64 he) := fun s => (zy.on s.below).cells.2.2.1
    have lf12 : ∀ s : Wd w16, s.w.cell? ⟨w.heap.size, 0, none⟩ = some (.bool false) := fun s => (za.on s.below).cells.1
    have lf13 : ∀ s : Wd w16, s.w.cell? ⟨w.heap.size, 1, none⟩ = some (.slice A0 l0 c0) := fun s => (za.on s.below).cells.2.1
    have lf14 : ∀ s : Wd w16, s.w.cell? ⟨w.heap.size, 2, none⟩ = some (.int .i64 e0) := fun s => (za.on s.below).cells.2.2.1
    refine lex_plain 13 (by kernel_rfl) ?_
    dsimp only [List.take, List.drop]
    repeat go_big_quiet_step (fail)
    refine wpQuiet_nil ?_
    clear lf0 lf1 lf2 lf3 lf4 lf5 lf6 lf7 lf8 lf9 lf10 lf11 lf12 lf13 lf14
    refine lex_call (by kernel_rfl) (by kernel_rfl) (fun w17 b K hK => ?_)
    replace hT := hT.on b
    replace hF := hF.on b
    replace za := za.on b
    replace h0 := h0.on b
    replace zf := zf.on b
    replace zr := zr.on b
    replace rA := rA.on b
    replace rB := rB.on b
    replace zl := zl.on b
    replace zh := zh.on b
    replace zx := zx.on b
    replace zy := zy.on b
    replace rx := rx.on b
    replace ry := ry.on b
    replace rp := rp.on b
    replace BW := Below.step BW b
    clear b
    go_simp
    refine (rparts_k ry (by omega)).mono ?_
    rintro en w18 ⟨V_q, v_q, c_q, rfl, rq, b⟩
    dsimp only
    refine hK _ _ b ?_
    clear hK K
    replace hT := hT.on b
    replace hF := hF.on b
    replace za := za.on b
    replace h0 := h0.on b
    replace zf := zf.on b
    replace zr := zr.on b
    replace rA := rA.on b
    replace rB := rB.on b
    replace zl := zl.on b
    replace zh := zh.on b
    replace zx := zx.on b
    replace zy := zy.on b
    replace rx := rx.on b
    replace ry := ry.on b
    replace rp := rp.on b
    replace BW := Below.step BW b
    clear b
    have lq := res_n_le rq (k := 200) (by omega)
    refine lex_call (by kernel_rfl) (by kernel_rfl) (fun w19 b K hK => ?_)
    replace hT := hT.on b
    replace hF := hF.on b
    replace za := za.on b
    replace h0 := h0.on b
    replace zf := zf.on b
    replace zr := zr.on b
    replace rA := rA.on b
    replace rB := rB.on b
    replace zl := zl.on b
    replace zh := zh.on b
    replace zx := zx.on b
    replace zy := zy.on b
    replace rx := rx.on b
    replace ry := ry.on b
    replace rp := rp.on b
    replace rq := rq.on b
    replace BW := Below.step BW b
    clear b
    go_simp
    refine (same_res rB rq (by omega) (by omega)).mono ?_
    rintro en w20 ⟨rfl, b⟩
    dsimp only
    refine hK _ _ b ?_
    clear hK K
    replace hT := hT.on b
    replace hF := hF.on b
    replace za := za.on b
    replace h0 := h0.on b
    replace zf := zf.on b
    replace zr := zr.on b
    replace rA := rA.on b
    replace rB := rB.on b
    replace zl := zl.on b
    replace zh := zh.on b
    replace zx := zx.on b
    replace zy := zy.on b
    replace rx := rx.on b
    replace ry := ry.on b
    replace rp := rp.on b
    replace rq := rq.on b
    replace BW := Below.step BW b
    clear b
    have lf0 : ∀ s : Wd w20, s.w.cell? ⟨w6.heap.size, 0, none⟩ = some (.bool false) := fun s => (zl.on s.below).cells.1
    have lf1 : ∀ s : Wd w20, s.w.cell? ⟨w6.heap.size, 1, none⟩ = some (.slice VA nA nA) := fun s => (zl.on s.below).cells.2.1
    have lf2 : ∀ s : Wd w20, s.w.cell? ⟨w6.heap.size, 2, none⟩ = some (.int .i64 le) := fun s => (zl.on s.below).cells.2.2.1
    have lf3 : ∀ s : Wd w20, s.w.cell? ⟨(w6.heap.size + 1), 0, none⟩ = some (.bool false) := fun s => (zh.on s.below).cells.1
    have lf4 : ∀ s : Wd w20, s.w.cell? ⟨(w6.heap.size + 1), 1, none⟩ = some (.slice VB nB nB) := fun s => (zh.on s.below).cells.2.1
    have lf5 : ∀ s : Wd w20, s.w.cell? ⟨(w6.heap.size + 1), 2, none⟩ = some (.int .i64 he) := fun s => (zh.on s.below).cells.2.2.1
    have lf6 : ∀ s : Wd w20, s.w.cell? ⟨gx, 0, none⟩ = some (.bool false) := fun s => (zx.on s.below).cells.1
    have lf7 : ∀ s : Wd w20, s.w.cell? ⟨gx, 1, none⟩ = some (.slice Ax (blen lx) cx) := fun s => (zx.on s.below).cells.2.1
    have lf8 : ∀ s : Wd w20, s.w.cell? ⟨gx, 2, none⟩ = some (.int .i64 le) := fun s => (zx.on s.below).cells.2.2.1
    have lf9 : ∀ s : Wd w20, s.w.cell? ⟨gy, 0, none⟩ = some (.bool false) := fun s => (zy.on s.below).cells.1
    have lf10 : ∀ s : Wd w20, s.w.cell? ⟨gy, 1, none⟩ = some (.slice Ay (blen hx) cy) := fun s => (zy.on s.below).cells.2.1
    have lf11 : ∀ s : Wd w20, s.w.cell? ⟨gy, 2, none⟩ = some (.int .i64 he) := fun s => (zy.on s.below).cells.2.2.1
    have lf12 : ∀ s : Wd w20, s.w.cell? ⟨w.heap.size, 0, none⟩ = some (.bool false) := fun s => (za.on s.below).cells.1
    have lf13 : ∀ s : Wd w20, s.w.cell? ⟨w.heap.size, 1, none⟩ = some (.slice A0 l0 c0) := fun s => (za.on s.below).cells.2.1
    have lf14 : ∀ s : Wd w20, s.w.cell? ⟨w.heap.size, 2, none⟩ = some (.int .i64 e0) := fun s => (za.on s.below).cells.2.2.1
    refine lex_plain 16 (by kernel_rfl) ?_
    dsimp only [List.take, List.drop]
    repeat go_big_quiet_step (fail)
    refine wpQuiet_nil ?_
    clear lf0 lf1 lf2 lf3 lf4 lf5 lf6 lf7 lf8 lf9 lf10 lf11 lf12 lf13 lf14
    refine lex_skip (by kernel_rfl) (by kernel_rfl) (fun w21 b => ?_)
    replace hT := hT.on b
    replace hF := hF.on b
    replace za := za.on b
    replace h0 := h0.on b
    replace zf := zf.on b
    replace zr := zr.on b
    replace rA := rA.on b
    replace rB := rB.on b
    replace zl := zl.on b
    replace zh := zh.on b
    replace zx := zx.on b
    replace zy := zy.on b
    replace rx := rx.on b
    replace ry := ry.on b
    replace rp := rp.on b
    replace rq := rq.on b
    replace BW := Below.step BW b
    clear b
    go_simp
    have lf0 : ∀ s : Wd w21, s.w.cell? ⟨w6.heap.size, 0, none⟩ = some (.bool false) := fun s => (zl.on s.below).cells.1
    have lf1 : ∀ s : Wd w21, s.w.cell? ⟨w6.heap.size, 1, none⟩ = some (.slice VA nA nA) := fun s => (zl.on s.below).cells.2.1
    have lf2 : ∀ s : Wd w21, s.w.cell? ⟨w6.heap.size, 2, none⟩ = some (.int .i64 le) := fun s => (zl.on s.below).cells.2.2.1
    have lf3 : ∀ s : Wd w21, s.w.cell? ⟨(w6.heap.size + 1), 0, none⟩ = some (.bool false) := fun s => (zh.on s.below).cells.1
    have lf4 : ∀ s : Wd w21, s.w.cell? ⟨(w6.heap.size + 1), 1, none⟩ = some (.slice VB nB nB) := fun s => (zh.on s.below).cells.2.1
    have lf5 : ∀ s : Wd w21, s.w.cell? ⟨(w6.heap.size + 1), 2, none⟩ = some (.int .i64 he) := fun s => (zh.on s.below).cells.2.2.1
    have lf6 : ∀ s : Wd w21, s.w.cell? ⟨gx, 0, none⟩ = some (.bool false) := fun s => (zx.on s.below).cells.1
    have lf7 : ∀ s : Wd w21, s.w.cell? ⟨gx, 1, none⟩ = some (.slice Ax (blen lx) cx) := fun s => (zx.on s.below).cells.2.1
    have lf8 : ∀ s : Wd w21, s.w.cell? ⟨gx, 2, none⟩ = some (.int .i64 le) := fun s => (zx.on s.below).cells.2.2.1
    have lf9 : ∀ s : Wd w21, s.w.cell? ⟨gy, 0, none⟩ = some (.bool false) := fun s => (zy.on s.below).cells.1
    have lf10 : ∀ s : Wd w21, s.w.cell? ⟨gy, 1, none⟩ = some (.slice Ay (blen hx) cy) := fun s => (zy.on s.below).cells.2.1
    have lf11 : ∀ s : Wd w21, s.w.cell? ⟨gy, 2, none⟩ = some (.int .i64 he) := fun s => (zy.on s.below).cells.2.2.1
    have lf12 : ∀ s : Wd w21, s.w.cell? ⟨w.heap.size, 0, none⟩ = some (.bool false) := fun s => (za.on s.below).cells.1
    have lf13 : ∀ s : Wd w21, s.w.cell? ⟨w.heap.size, 1, none⟩ = some (.slice A0 l0 c0) := fun s => (za.on s.below).cells.2.1
    have lf14 : ∀ s : Wd w21, s.w.cell? ⟨w.heap.size, 2, none⟩ = some (.int .i64 e0) := fun s => (za.on s.below).cells.2.2.1
    refine lex_plain 12 (by kernel_rfl) ?_
    dsimp only [List.take, List.drop]
    repeat go_big_quiet_step (fail)
    refine wpQuiet_nil ?_
    clear lf0 lf1 lf2 lf3 lf4 lf5 lf6 lf7 lf8 lf9 lf10 lf11 lf12 lf13 lf14
    refine lex_skip (by kernel_rfl) (by kernel_rfl) (fun w22 b => ?_)
    replace hT := hT.on b
    replace hF := hF.on b
    replace za := za.on b
    replace h0 := h0.on b
    replace zf := zf.on b
    replace zr := zr.on b
    replace rA := rA.on b
    replace rB := rB.on b
    replace zl := zl.on b
    replace zh := zh.on b
    replace zx := zx.on b
    replace zy := zy.on b
    replace rx := rx.on b
    replace ry := ry.on b
    replace rp := rp.on b
    replace rq := rq.on b
    replace BW := Below.step BW b
    clear b
    go_simp
    have lf0 : ∀ s : Wd w22, s.w.cell? ⟨w6.heap.size, 0, none⟩ = some (.bool false) := fun s => (zl.on s.below).cells.1
    have lf1 : ∀ s : Wd w22, s.w.cell? ⟨w6.heap.size, 1, none⟩ = some (.slice VA nA nA) := fun s => (zl.on s.below).cells.2.1
    have lf2 : ∀ s : Wd w22, s.w.cell? ⟨w6.heap.size, 2, none⟩ = some (.int .i64 le) := fun s => (zl.on s.below).cells.2.2.1
    have lf3 : ∀ s : Wd w22, s.w.cell? ⟨(w6.heap.size + 1), 0, none⟩ = some (.bool false) := fun s => (zh.on s.below).cells.1
    have lf4 : ∀ s : Wd w22, s.w.cell? ⟨(w6.heap.size + 1), 1, none⟩ = some (.slice VB nB nB) := fun s => (zh.on s.below).cells.2.1
    have lf5 : ∀ s : Wd w22, s.w.cell? ⟨(w6.heap.size + 1), 2, none⟩ = some (.int .i64 he) := fun s => (zh.on s.below).cells.2.2.1
    have lf6 : ∀ s : Wd w22, s.w.cell? ⟨gx, 0, none⟩ = some (.bool false) := fun s => (zx.on s.below).cells.1
    have lf7 : ∀ s : Wd w22, s.w.cell? ⟨gx, 1, none⟩ = some (.slice Ax (blen lx) cx) := fun s => (zx.on s.below).cells.2.1
    have lf8 : ∀ s : Wd w22, s.w.cell? ⟨gx, 2, none⟩ = some (.int .i64 le) := fun s => (zx.on s.below).cells.2.2.1
    have lf9 : ∀ s : Wd w22, s.w.cell? ⟨gy, 0, none⟩ = some (.bool false) := fun s => (zy.on s.below).cells.1
    have lf10 : ∀ s : Wd w22, s.w.cell? ⟨gy, 1, none⟩ = some (.slice Ay (blen hx) cy) := fun s => (zy.on s.below).cells.2.1
    have lf11 : ∀ s : Wd w22, s.w.cell? ⟨gy, 2, none⟩ = some (.int .i64 he) := fun s => (zy.on s.below).cells.2.2.1
    have lf12 : ∀ s : Wd w22, s.w.cell? ⟨w.heap.size, 0, none⟩ = some (.bool false) := fun s => (za.on s.below).cells.1
    have lf13 : ∀ s : Wd w22, s.w.cell? ⟨w.heap.size, 1, none⟩ = some (.slice A0 l0 c0) := fun s => (za.on s.below).cells.2.1
    have lf14 : ∀ s : Wd w22, s.w.cell? ⟨w.heap.size, 2, none⟩ = some (.int .i64 e0) := fun s => (za.on s.below).cells.2.2.1
    refine lex_plain 5 (by kernel_rfl) ?_
    dsimp only [List.take, List.drop]
    repeat go_big_quiet_step (fail)
    refine wpQuiet_nil ?_
    clear lf0 lf1 lf2 lf3 lf4 lf5 lf6 lf7 lf8 lf9 lf10 lf11 lf12 lf13 lf14
    refine lex_nil (fun w23 b => ?_)
    replace hT := hT.on b
    replace hF := hF.on b
    replace za := za.on b
    replace h0 := h0.on b
    replace zf := zf.on b
    replace zr := zr.on b
    replace rA := rA.on b
    replace rB := rB.on b
    replace zl := zl.on b
    replace zh := zh.on b
    replace zx := zx.on b
    replace zy := zy.on b
    replace rx := rx.on b
    replace ry := ry.on b
    replace rp := rp.on b
    replace rq := rq.on b
    replace BW := Below.step BW b
    clear b
    dsimp only [NoPanic]
    go_wp2_with fail
    go_ret
    exact ⟨rfl, BW⟩
theorem pl_true (n : Nat) (p : Int) {lx : Nat} {le : Int} (h : D.pl ⟨false, n, p⟩ = ⟨false, lx, le⟩) : D.pl ⟨true, n, p⟩ = ⟨decide (0 < blen lx), lx, le⟩ := by
  by_cases h0 : n = 0
  · rw [D.pl_zero (d := ⟨false, n, p⟩) h0] at h
    rw [D.pl_zero (d := ⟨true, n, p⟩) h0]
    simp only [D.mk.injEq] at h
    obtain ⟨_, rfl, rfl⟩ := h
    rw [blen_zero]
    rfl
  · have hz := (tz_blen h0).2.2
    rw [D.pl_pos (d := ⟨false, n, p⟩) h0] at h
    rw [D.pl_pos (d := ⟨true, n, p⟩) h0]
    simp only [D.mk.injEq] at h
    obtain ⟨_, rfl, rfl⟩ := h
    have := (blen_pos (x := n / 2 ^ tz n) (by intro h; rw [h] at hz; simp at hz)).2
    rw [decide_eq_true (by omega)]
theorem dec_cast (n : Nat) {b : Bool} (h : decide (0 < n) = b) : decide ((0 : Int) < (n : Int)) = b := by
  rw [← h]
  exact decide_eq_decide.2 (by omega)
theorem nears_walk (bits : Int) {n0 : Bool} {A0 : Option Addr} {l0 c0 x0 : Nat} {e0 : Int} {w : World} (h0 : Arg w A0 l0 c0 x0) (hT : Tab w) (hF : Frm w) : Calls Tryd.prog 3 #[.int .i64 bits, .agg #[.bool n0, .slice A0 l0 c0, .int .i64 e0]] w fun e w' => e = .returned (.bool true) ∧ Below w.heap.size w w' := by
  rcases fm_of bits with ⟨B, P, W, M, E, H, low, hf, rfl⟩ | ⟨b1, b2, b3⟩
  · by_cases gl : 140 < (l0 : Int)
    · exact nears_long hf h0 hT hF (decide_eq_true gl)
    have gl' := decide_eq_false gl
    have hb := h0.blen
    have hb2 : blen x0 ≤ 4480 := by omega
    by_cases hm0 : mayR ⟨n0, x0, e0⟩ = false
    · exact nears_none hf h0 hT hF gl' hb2 (Lib.hid fun V g1 g2 g3 => nk_none hf g1 g2 g3 hm0) (Lib.hid hm0)
    have hm : mayR ⟨n0, x0, e0⟩ = true := by simpa using hm0
    by_cases hz : x0 = 0
    · cases n0
      · exact nears_f hf h0 hT hF gl' hb2 (lx := 0) (hx := 0) (le := 0) (he := 0) (by rw [blen_zero]; omega) (by rw [blen_zero]; omega) (Lib.hid fun V g1 g2 g3 => nk_nought hf g1 g2 g3 hm hz) (Lib.hid hm) (Lib.hid fun V A n c g1 g2 => rnb_zero hf g1 g2 hz)
      · have d : decide (0 < blen 0) = false := by rw [blen_zero]; rfl
        exact nears_t hf h0 hT hF gl' hb2 (lx := 0) (hx := 0) (le := 0) (he := 0) (by rw [blen_zero]; omega) (by rw [blen_zero]; omega) (dec_cast _ d) (dec_cast _ d) d d (Lib.hid fun V g1 g2 g3 => nk_nought hf g1 g2 g3 hm hz) (Lib.hid hm) (Lib.hid fun V A n c g1 g2 => rnb_zero hf g1 g2 hz)
    · obtain ⟨p, hp⟩ : ∃ p, plcS P low ⟨n0, x0, e0⟩ = p := ⟨_, rfl⟩
      obtain ⟨k1, k2, k3, k4⟩ := mayR_bd hm hz
      have hplc := plc_cell (P := P) (low := low) (a := ⟨n0, x0, e0⟩) hz (by omega)
      obtain ⟨p1, p2⟩ := plc_bd hf hm hz
      rw [hp] at hplc p1 p2
      have hq := (flq hf (⟨n0, x0, e0⟩ : D).vl.natAbs).1
      rw [← hplc] at hq
      have hbd := hf.bd
      obtain ⟨lx, le, hlow⟩ := pl_false ((⟨n0, x0, e0⟩ : D).vl.natAbs / 2 ^ (p + 40000).toNat) p
      obtain ⟨hx, he, hhigh⟩ := pl_false ((⟨n0, x0, e0⟩ : D).vl.natAbs / 2 ^ (p + 40000).toNat + (if (⟨n0, x0, e0⟩ : D).vl.natAbs % 2 ^ (p + 40000).toNat = 0 then 0 else 1)) p
      have hi : (if (⟨n0, x0, e0⟩ : D).vl.natAbs % 2 ^ (p + 40000).toNat = 0 then 0 else 1) ≤ 1 := by split <;> omega
      have m1 := (nb_may (n := (⟨n0, x0, e0⟩ : D).vl.natAbs / 2 ^ (p + 40000).toNat) (p := p) (by omega) (by omega) (by omega)).2.2.2.2.1
      have m2 := (nb_may (n := (⟨n0, x0, e0⟩ : D).vl.natAbs / 2 ^ (p + 40000).toNat + (if (⟨n0, x0, e0⟩ : D).vl.natAbs % 2 ^ (p + 40000).toNat = 0 then 0 else 1)) (p := p) (by omega) (by omega) (by omega)).2.2.2.2.1
      rw [hlow] at m1
      rw [hhigh] at m2
      simp only at m1 m2
      cases n0
      · exact nears_f hf h0 hT hF gl' hb2 m1 (by omega) (Lib.hid fun V g1 g2 g3 => nk_num hf g1 g2 g3 hm hz hp hlow hhigh) (Lib.hid hm) (Lib.hid fun V A n c g1 g2 => rnb_as hf g1 g2 hm hz hp hlow hhigh)
      · exact nears_t hf h0 hT hF gl' hb2 m1 (by omega) (dec_cast _ rfl) (dec_cast _ rfl) rfl rfl (Lib.hid fun V g1 g2 g3 => nk_num hf g1 g2 g3 hm hz hp (pl_true _ _ hlow) (pl_true _ _ hhigh)) (Lib.hid hm) (Lib.hid fun V A n c g1 g2 => rnb_as hf g1 g2 hm hz hp hlow hhigh)
  · exact nears_bad bits b1 b2 b3 h0 hT hF
end Go.Proofs.YtkjbejdeejpdoaaDoor
