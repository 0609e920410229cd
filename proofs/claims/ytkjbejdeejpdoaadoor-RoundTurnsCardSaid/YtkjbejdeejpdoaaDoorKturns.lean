
/-
  The walk of the law RoundTurns.
-/
import Derived.Test.YtkjbejdeejpdoaaDoorKw
import Derived.Test.YtkjbejdeejpdoaaDoorFopen
import Derived.Test.YtkjbejdeejpdoaaDoorND
import Derived.Test.YtkjbejdeejpdoaaDoorRmf
namespace Go.Proofs.YtkjbejdeejpdoaaDoor
open Go.RowKit
set_option linter.unusedVariables false

theorem xor_u64 (a b : Nat) (ha : a < 18446744073709551616) (hb : b < 18446744073709551616) : bits .xor .u64 (a : Int) (b : Int) = ((a ^^^ b : Nat) : Int) := by
  have hx : a ^^^ b < 2 ^ 64 := Nat.xor_lt_two_pow (by omega) (by omega)
  have h1 : ∀ a : Nat, a < 18446744073709551616 → (BitVec.ofInt 64 (a : Int)).toNat = a := fun a ha => by
    rw [BitVec.ofInt_natCast, BitVec.toNat_ofNat]; exact Nat.mod_eq_of_lt (by omega)
  show IntKind.u64.wrap ((BitVec.ofInt 64 (a : Int) ^^^ BitVec.ofInt 64 (b : Int)).toNat : Int) = _
  rw [BitVec.toNat_xor, h1 a ha, h1 b hb, IntKind.wrap_u64]
  omega
theorem turns_bad (bits mode : Int) (h1 : bits ≠ 16) (h2 : bits ≠ 32) (h3 : bits ≠ 64) {n0 : Bool} {A0 : Option Addr} {l0 c0 x0 : Nat} {e0 : Int} {w : World} (h0 : Arg w A0 l0 c0 x0) (hT : Tab w) (hF : Frm w) :
    Calls Tryd.prog 6 #[.int .i64 bits, .int .i64 mode, .agg #[.bool n0, .slice A0 l0 c0, .int .i64 e0]] w fun e w' => e = .returned (.bool true) ∧ Below w.heap.size w w' := by
  go_enter Tryd.func6, Tryd.ntmps6
  go_wp2_with fail
  obtain ⟨V, hV, za, BW, sW⟩ := frame1 w 25 n0 A0 l0 c0 e0
  rw [hV]
  clear hV sW
  replace hT := hT.on BW
  replace hF := hF.on BW
  replace h0 := h0.on BW
  refine (awake4_any hT hF).mono ?_
  rintro en w1 ⟨rfl, b⟩
  replace hT := hT.on b
  replace hF := hF.on b
  replace za := za.on b
  replace h0 := h0.on b
  replace BW := Below.step BW b
  clear b
  go_wp2_with fail
  refine (of_bad bits h1 h2 h3 _ hF).mono ?_
  rintro en w2 ⟨rfl, b⟩
  replace hT := hT.on b
  replace hF := hF.on b
  replace za := za.on b
  replace h0 := h0.on b
  replace BW := Below.step BW b
  clear b
  obtain ⟨zac0, zac1, zac2, zaf0, zaf1, zaf2, zal⟩ := za.cells
  go_wp2_with fail
  go_ret
  exact ⟨rfl, below_k BW _⟩
theorem turns_m1 {B P W M E H : Nat} {low : Int} (hf : Fm B P W M E H low) (mode : Int) {n0 : Bool} {A0 : Option Addr} {l0 c0 x0 : Nat} {e0 : Int} {w : World} (h0 : Arg w A0 l0 c0 x0) (hT : Tab w) (hF : Frm w)  (m1 : decide (mode < 0) = true) :
    Calls Tryd.prog 6 #[.int .i64 (B : Int), .int .i64 mode, .agg #[.bool n0, .slice A0 l0 c0, .int .i64 e0]] w fun e w' => e = .returned (.bool true) ∧ Below w.heap.size w w' := by
  go_enter Tryd.func6, Tryd.ntmps6
  go_wp2_with fail
  obtain ⟨V, hV, za, BW, sW⟩ := frame1 w 25 n0 A0 l0 c0 e0
  rw [hV]
  clear hV sW
  replace hT := hT.on BW
  replace hF := hF.on BW
  replace h0 := h0.on BW
  refine (awake4_any hT hF).mono ?_
  rintro en w1 ⟨rfl, b⟩
  replace hT := hT.on b
  replace hF := hF.on b
  replace za := za.on b
  replace h0 := h0.on b
  replace BW := Below.step BW b
  clear b
  go_wp2_with fail
  refine (of_fm hf _ hF).mono ?_
  rintro en w2 ⟨rfl, b⟩
  replace hT := hT.on b
  replace hF := hF.on b
  replace za := za.on b
  replace h0 := h0.on b
  replace BW := Below.step BW b
  clear b
  obtain ⟨zac0, zac1, zac2, zaf0, zaf1, zaf2, zal⟩ := za.cells
  go_upto_region 4 with fail
  clear zac0 zac1 zac2 zaf0 zaf1 zaf2 zal
  obtain ⟨w3, e_w3⟩ : ∃ w', w2.alloc (.cells #[.int .i64 (B : Int), .int .i64 (P : Int), .int .i64 (W : Int)] 28) = w' := ⟨_, rfl⟩
  have b : Below w2.heap.size w2 w3 := e_w3 ▸ below_lit _ _
  have hs_w3 : w3.heap.size = w2.heap.size + 1 := e_w3 ▸ size_lit w2 _ rfl
  have zf : FB w3 w2.heap.size 28 (B : Int) (P : Int) (W : Int) := e_w3 ▸ Box.made_at w2 rfl 28 (notU_int _) (notU_int _) (notU_int _)
  rw [e_w3]
  clear e_w3
  replace hT := hT.on b
  replace hF := hF.on b
  replace za := za.on b
  replace h0 := h0.on b
  replace BW := Below.step BW b
  clear b
  clear hs_w3
  obtain ⟨zfc0, zfc1, zfc2, zff0, zff1, zff2, zfl⟩ := zf.cells
  obtain ⟨zac0, zac1, zac2, zaf0, zaf1, zaf2, zal⟩ := za.cells
  go_wp2_with fail
  go_ret
  exact ⟨rfl, BW⟩
theorem turns_m2 {B P W M E H : Nat} {low : Int} (hf : Fm B P W M E H low) (mode : Int) {n0 : Bool} {A0 : Option Addr} {l0 c0 x0 : Nat} {e0 : Int} {w : World} (h0 : Arg w A0 l0 c0 x0) (hT : Tab w) (hF : Frm w) (m1 : decide (mode < 0) = false) (m2 : decide (5 ≤ mode) = true) :
    Calls Tryd.prog 6 #[.int .i64 (B : Int), .int .i64 mode, .agg #[.bool n0, .slice A0 l0 c0, .int .i64 e0]] w fun e w' => e = .returned (.bool true) ∧ Below w.heap.size w w' := by
  go_enter Tryd.func6, Tryd.ntmps6
  go_wp2_with fail
  obtain ⟨V, hV, za, BW, sW⟩ := frame1 w 25 n0 A0 l0 c0 e0
  rw [hV]
  clear hV sW
  replace hT := hT.on BW
  replace hF := hF.on BW
  replace h0 := h0.on BW
  refine (awake4_any hT hF).mono ?_
  rintro en w1 ⟨rfl, b⟩
  replace hT := hT.on b
  replace hF := hF.on b
  replace za := za.on b
  replace h0 := h0.on b
  replace BW := Below.step BW b
  clear b
  go_wp2_with fail
  refine (of_fm hf _ hF).mono ?_
  rintro en w2 ⟨rfl, b⟩
  replace hT := hT.on b
  replace hF := hF.on b
  replace za := za.on b
  replace h0 := h0.on b
  replace BW := Below.step BW b
  clear b
  obtain ⟨zac0, zac1, zac2, zaf0, zaf1, zaf2, zal⟩ := za.cells
  go_upto_region 4 with fail
  clear zac0 zac1 zac2 zaf0 zaf1 zaf2 zal
  obtain ⟨w3, e_w3⟩ : ∃ w', w2.alloc (.cells #[.int .i64 (B : Int), .int .i64 (P : Int), .int .i64 (W : Int)] 28) = w' := ⟨_, rfl⟩
  have b : Below w2.heap.size w2 w3 := e_w3 ▸ below_lit _ _
  have hs_w3 : w3.heap.size = w2.heap.size + 1 := e_w3 ▸ size_lit w2 _ rfl
  have zf : FB w3 w2.heap.size 28 (B : Int) (P : Int) (W : Int) := e_w3 ▸ Box.made_at w2 rfl 28 (notU_int _) (notU_int _) (notU_int _)
  rw [e_w3]
  clear e_w3
  replace hT := hT.on b
  replace hF := hF.on b
  replace za := za.on b
  replace h0 := h0.on b
  replace BW := Below.step BW b
  clear b
  clear hs_w3
  obtain ⟨zfc0, zfc1, zfc2, zff0, zff1, zff2, zfl⟩ := zf.cells
  obtain ⟨zac0, zac1, zac2, zaf0, zaf1, zaf2, zal⟩ := za.cells
  go_wp2_with fail
  go_ret
  exact ⟨rfl, BW⟩
theorem turns_gl {B P W M E H : Nat} {low : Int} (hf : Fm B P W M E H low) (mode : Int) {n0 : Bool} {A0 : Option Addr} {l0 c0 x0 : Nat} {e0 : Int} {w : World} (h0 : Arg w A0 l0 c0 x0) (hT : Tab w) (hF : Frm w) (m1 : decide (mode < 0) = false) (m2 : decide (5 ≤ mode) = false) (gl : decide (40 < (l0 : Int)) = true) :
    Calls Tryd.prog 6 #[.int .i64 (B : Int), .int .i64 mode, .agg #[.bool n0, .slice A0 l0 c0, .int .i64 e0]] w fun e w' => e = .returned (.bool true) ∧ Below w.heap.size w w' := by
  go_enter Tryd.func6, Tryd.ntmps6
  go_wp2_with fail
  obtain ⟨V, hV, za, BW, sW⟩ := frame1 w 25 n0 A0 l0 c0 e0
  rw [hV]
  clear hV sW
  replace hT := hT.on BW
  replace hF := hF.on BW
  replace h0 := h0.on BW
  refine (awake4_any hT hF).mono ?_
  rintro en w1 ⟨rfl, b⟩
  replace hT := hT.on b
  replace hF := hF.on b
  replace za := za.on b
  replace h0 := h0.on b
  replace BW := Below.step BW b
  clear b
  go_wp2_with fail
  refine (of_fm hf _ hF).mono ?_
  rintro en w2 ⟨rfl, b⟩
  replace hT := hT.on b
  replace hF := hF.on b
  replace za := za.on b
  replace h0 := h0.on b
  replace BW := Below.step BW b
  clear b
  obtain ⟨zac0, zac1, zac2, zaf0, zaf1, zaf2, zal⟩ := za.cells
  go_upto_region 4 with fail
  clear zac0 zac1 zac2 zaf0 zaf1 zaf2 zal
  obtain ⟨w3, e_w3⟩ : ∃ w', w2.alloc (.cells #[.int .i64 (B : Int), .int .i64 (P : Int), .int .i64 (W : Int)] 28) = w' := ⟨_, rfl⟩
  have b : Below w2.heap.size w2 w3 := e_w3 ▸ below_lit _ _
  have hs_w3 : w3.heap.size = w2.heap.size + 1 := e_w3 ▸ size_lit w2 _ rfl
  have zf : FB w3 w2.heap.size 28 (B : Int) (P : Int) (W : Int) := e_w3 ▸ Box.made_at w2 rfl 28 (notU_int _) (notU_int _) (notU_int _)
  rw [e_w3]
  clear e_w3
  replace hT := hT.on b
  replace hF := hF.on b
  replace za := za.on b
  replace h0 := h0.on b
  replace BW := Below.step BW b
  clear b
  clear hs_w3
  obtain ⟨zfc0, zfc1, zfc2, zff0, zff1, zff2, zfl⟩ := zf.cells
  obtain ⟨zac0, zac1, zac2, zaf0, zaf1, zaf2, zal⟩ := za.cells
  go_wp2_with fail
  go_ret
  exact ⟨rfl, BW⟩
theorem turns_g1 {B P W M E H : Nat} {low : Int} (hf : Fm B P W M E H low) (mode : Int) {n0 : Bool} {A0 : Option Addr} {l0 c0 x0 : Nat} {e0 : Int} {w : World} (h0 : Arg w A0 l0 c0 x0) (hT : Tab w) (hF : Frm w) (m1 : decide (mode < 0) = false) (m2 : decide (5 ≤ mode) = false) (gl : decide (40 < (l0 : Int)) = false) (g1 : decide (e0 < -1200) = true) :
    Calls Tryd.prog 6 #[.int .i64 (B : Int), .int .i64 mode, .agg #[.bool n0, .slice A0 l0 c0, .int .i64 e0]] w fun e w' => e = .returned (.bool true) ∧ Below w.heap.size w w' := by
  go_enter Tryd.func6, Tryd.ntmps6
  go_wp2_with fail
  obtain ⟨V, hV, za, BW, sW⟩ := frame1 w 25 n0 A0 l0 c0 e0
  rw [hV]
  clear hV sW
  replace hT := hT.on BW
  replace hF := hF.on BW
  replace h0 := h0.on BW
  refine (awake4_any hT hF).mono ?_
  rintro en w1 ⟨rfl, b⟩
  replace hT := hT.on b
  replace hF := hF.on b
  replace za := za.on b
  replace h0 := h0.on b
  replace BW := Below.step BW b
  clear b
  go_wp2_with fail
  refine (of_fm hf _ hF).mono ?_
  rintro en w2 ⟨rfl, b⟩
  replace hT := hT.on b
  replace hF := hF.on b
  replace za := za.on b
  replace h0 := h0.on b
  replace BW := Below.step BW b
  clear b
  obtain ⟨zac0, zac1, zac2, zaf0, zaf1, zaf2, zal⟩ := za.cells
  go_upto_region 4 with fail
  clear zac0 zac1 zac2 zaf0 zaf1 zaf2 zal
  obtain ⟨w3, e_w3⟩ : ∃ w', w2.alloc (.cells #[.int .i64 (B : Int), .int .i64 (P : Int), .int .i64 (W : Int)] 28) = w' := ⟨_, rfl⟩
  have b : Below w2.heap.size w2 w3 := e_w3 ▸ below_lit _ _
  have hs_w3 : w3.heap.size = w2.heap.size + 1 := e_w3 ▸ size_lit w2 _ rfl
  have zf : FB w3 w2.heap.size 28 (B : Int) (P : Int) (W : Int) := e_w3 ▸ Box.made_at w2 rfl 28 (notU_int _) (notU_int _) (notU_int _)
  rw [e_w3]
  clear e_w3
  replace hT := hT.on b
  replace hF := hF.on b
  replace za := za.on b
  replace h0 := h0.on b
  replace BW := Below.step BW b
  clear b
  clear hs_w3
  obtain ⟨zfc0, zfc1, zfc2, zff0, zff1, zff2, zfl⟩ := zf.cells
  obtain ⟨zac0, zac1, zac2, zaf0, zaf1, zaf2, zal⟩ := za.cells
  go_wp2_with fail
  go_ret
  exact ⟨rfl, BW⟩
theorem turns_g2 {B P W M E H : Nat} {low : Int} (hf : Fm B P W M E H low) (mode : Int) {n0 : Bool} {A0 : Option Addr} {l0 c0 x0 : Nat} {e0 : Int} {w : World} (h0 : Arg w A0 l0 c0 x0) (hT : Tab w) (hF : Frm w) (m1 : decide (mode < 0) = false) (m2 : decide (5 ≤ mode) = false) (gl : decide (40 < (l0 : Int)) = false) (g1 : decide (e0 < -1200) = false) (g2 : decide (1100 < e0) = true) :
    Calls Tryd.prog 6 #[.int .i64 (B : Int), .int .i64 mode, .agg #[.bool n0, .slice A0 l0 c0, .int .i64 e0]] w fun e w' => e = .returned (.bool true) ∧ Below w.heap.size w w' := by
  go_enter Tryd.func6, Tryd.ntmps6
  go_wp2_with fail
  obtain ⟨V, hV, za, BW, sW⟩ := frame1 w 25 n0 A0 l0 c0 e0
  rw [hV]
  clear hV sW
  replace hT := hT.on BW
  replace hF := hF.on BW
  replace h0 := h0.on BW
  refine (awake4_any hT hF).mono ?_
  rintro en w1 ⟨rfl, b⟩
  replace hT := hT.on b
  replace hF := hF.on b
  replace za := za.on b
  replace h0 := h0.on b
  replace BW := Below.step BW b
  clear b
  go_wp2_with fail
  refine (of_fm hf _ hF).mono ?_
  rintro en w2 ⟨rfl, b⟩
  replace hT := hT.on b
  replace hF := hF.on b
  replace za := za.on b
  replace h0 := h0.on b
  replace BW := Below.step BW b
  clear b
  obtain ⟨zac0, zac1, zac2, zaf0, zaf1, zaf2, zal⟩ := za.cells
  go_upto_region 4 with fail
  clear zac0 zac1 zac2 zaf0 zaf1 zaf2 zal
  obtain ⟨w3, e_w3⟩ : ∃ w', w2.alloc (.cells #[.int .i64 (B : Int), .int .i64 (P : Int), .int .i64 (W : Int)] 28) = w' := ⟨_, rfl⟩
  have b : Below w2.heap.size w2 w3 := e_w3 ▸ below_lit _ _
  have hs_w3 : w3.heap.size = w2.heap.size + 1 := e_w3 ▸ size_lit w2 _ rfl
  have zf : FB w3 w2.heap.size 28 (B : Int) (P : Int) (W : Int) := e_w3 ▸ Box.made_at w2 rfl 28 (notU_int _) (notU_int _) (notU_int _)
  rw [e_w3]
  clear e_w3
  replace hT := hT.on b
  replace hF := hF.on b
  replace za := za.on b
  replace h0 := h0.on b
  replace BW := Below.step BW b
  clear b
  clear hs_w3
  obtain ⟨zfc0, zfc1, zfc2, zff0, zff1, zff2, zfl⟩ := zf.cells
  obtain ⟨zac0, zac1, zac2, zaf0, zaf1, zaf2, zal⟩ := za.cells
  go_wp2_with fail
  go_ret
  exact ⟨rfl, BW⟩
theorem turns_gz {B P W M E H : Nat} {low : Int} (hf : Fm B P W M E H low) (mode : Int) {n0 : Bool} {A0 : Option Addr} {l0 c0 x0 : Nat} {e0 : Int} {w : World} (h0 : Arg w A0 l0 c0 x0) (hT : Tab w) (hF : Frm w) (m1 : decide (mode < 0) = false) (m2 : decide (5 ≤ mode) = false) (gl : decide (40 < (l0 : Int)) = false) (g1 : decide (e0 < -1200) = false) (g2 : decide (1100 < e0) = false) (gz : ((blen x0 : Int) == 0) = true) :
    Calls Tryd.prog 6 #[.int .i64 (B : Int), .int .i64 mode, .agg #[.bool n0, .slice A0 l0 c0, .int .i64 e0]] w fun e w' => e = .returned (.bool true) ∧ Below w.heap.size w w' := by
  have gl' := of_decide_eq_false gl
  go_enter Tryd.func6, Tryd.ntmps6
  go_wp2_with fail
  obtain ⟨V, hV, za, BW, sW⟩ := frame1 w 25 n0 A0 l0 c0 e0
  rw [hV]
  clear hV sW
  replace hT := hT.on BW
  replace hF := hF.on BW
  replace h0 := h0.on BW
  refine (awake4_any hT hF).mono ?_
  rintro en w1 ⟨rfl, b⟩
  replace hT := hT.on b
  replace hF := hF.on b
  replace za := za.on b
  replace h0 := h0.on b
  replace BW := Below.step BW b
  clear b
  go_wp2_with fail
  refine (of_fm hf _ hF).mono ?_
  rintro en w2 ⟨rfl, b⟩
  replace hT := hT.on b
  replace hF := hF.on b
  replace za := za.on b
  replace h0 := h0.on b
  replace BW := Below.step BW b
  clear b
  obtain ⟨zac0, zac1, zac2, zaf0, zaf1, zaf2, zal⟩ := za.cells
  go_upto_region 4 with fail
  clear zac0 zac1 zac2 zaf0 zaf1 zaf2 zal
  obtain ⟨w3, e_w3⟩ : ∃ w', w2.alloc (.cells #[.int .i64 (B : Int), .int .i64 (P : Int), .int .i64 (W : Int)] 28) = w' := ⟨_, rfl⟩
  have b : Below w2.heap.size w2 w3 := e_w3 ▸ below_lit _ _
  have hs_w3 : w3.heap.size = w2.heap.size + 1 := e_w3 ▸ size_lit w2 _ rfl
  have zf : FB w3 w2.heap.size 28 (B : Int) (P : Int) (W : Int) := e_w3 ▸ Box.made_at w2 rfl 28 (notU_int _) (notU_int _) (notU_int _)
  rw [e_w3]
  clear e_w3
  replace hT := hT.on b
  replace hF := hF.on b
  replace za := za.on b
  replace h0 := h0.on b
  replace BW := Below.step BW b
  clear b
  clear hs_w3
  obtain ⟨zfc0, zfc1, zfc2, zff0, zff1, zff2, zfl⟩ := zf.cells
  obtain ⟨zac0, zac1, zac2, zaf0, zaf1, zaf2, zal⟩ := za.cells
  go_wp2_with fail
  refine (len_any h0 (by omega)).mono ?_
  rintro en w' ⟨rfl, rfl⟩
  go_wp2_with fail
  go_ret
  exact ⟨rfl, BW⟩
set_option maxHeartbeats 1000000 in
theorem turns_two_0 {B P W M E H : Nat} {low : Int} (hf : Fm B P W M E H low) (mode : Int) {n0 : Bool} {A0 : Option Addr} {l0 c0 x0 : Nat} {e0 : Int} {w : World} (h0 : Arg w A0 l0 c0 x0) (hT : Tab w) (hF : Frm w) (m1 : decide (mode < 0) = false) (m2 : decide (5 ≤ mode) = false) (gl : decide (40 < (l0 : Int)) = false) (g1 : decide (e0 < -1200) = false) (g2 : decide (1100 < e0) = false) (gz : ((blen x0 : Int) == 0) = false) (hm : mode = 2) {u v : Nat} (ha : roundS P M E H low 2 ⟨n0, x0, e0⟩ false = (u, 0, 0)) (hb : roundS P M E H low 3 ⟨!n0, x0, e0⟩ false = (v, 0, 0)) (q7 : bits BinOp.xor IntKind.u64 (u : Int) (v : Int) = (H : Int)) :
    Calls Tryd.prog 6 #[.int .i64 (B : Int), .int .i64 mode, .agg #[.bool n0, .slice A0 l0 c0, .int .i64 e0]] w fun e w' => e = .returned (.bool true) ∧ Below w.heap.size w w' := by
  subst hm
  have gl' := of_decide_eq_false gl
  have HA := Lib.hid ha
  have HB := Lib.hid hb
  have HN : Hid (sgn H true 0 = H) := Lib.hid (by unfold sgn; simp)
  clear ha hb
  go_enter Tryd.func6, Tryd.ntmps6
  go_wp2_with fail
  obtain ⟨V, hV, za, BW, sW⟩ := frame1 w 25 n0 A0 l0 c0 e0
  rw [hV]
  clear hV sW
  replace hT := hT.on BW
  replace hF := hF.on BW
  replace h0 := h0.on BW
  refine (awake4_any hT hF).mono ?_
  rintro en w1 ⟨rfl, b⟩
  replace hT := hT.on b
  replace hF := hF.on b
  replace za := za.on b
  replace h0 := h0.on b
  replace BW := Below.step BW b
  clear b
  go_wp2_with fail
  refine (of_fm hf _ hF).mono ?_
  rintro en w2 ⟨rfl, b⟩
  replace hT := hT.on b
  replace hF := hF.on b
  replace za := za.on b
  replace h0 := h0.on b
  replace BW := Below.step BW b
  clear b
  obtain ⟨zac0, zac1, zac2, zaf0, zaf1, zaf2, zal⟩ := za.cells
  go_upto_region 4 with fail
  clear zac0 zac1 zac2 zaf0 zaf1 zaf2 zal
  obtain ⟨w3, e_w3⟩ : ∃ w', w2.alloc (.cells #[.int .i64 (B : Int), .int .i64 (P : Int), .int .i64 (W : Int)] 28) = w' := ⟨_, rfl⟩
  have b : Below w2.heap.size w2 w3 := e_w3 ▸ below_lit _ _
  have hs_w3 : w3.heap.size = w2.heap.size + 1 := e_w3 ▸ size_lit w2 _ rfl
  have zf : FB w3 w2.heap.size 28 (B : Int) (P : Int) (W : Int) := e_w3 ▸ Box.made_at w2 rfl 28 (notU_int _) (notU_int _) (notU_int _)
  rw [e_w3]
  clear e_w3
  replace hT := hT.on b
  replace hF := hF.on b
  replace za := za.on b
  replace h0 := h0.on b
  replace BW := Below.step BW b
  clear b
  clear hs_w3
  obtain ⟨zfc0, zfc1, zfc2, zff0, zff1, zff2, zfl⟩ := zf.cells
  obtain ⟨zac0, zac1, zac2, zaf0, zaf1, zaf2, zal⟩ := za.cells
  go_wp2_with fail
  refine (len_any h0 (by omega)).mono ?_
  rintro en w' ⟨rfl, rfl⟩
  go_wp2_with fail
  refine (to_as hf h0 (by omega) hT _ false HA.out).mono ?_
  rintro en w4 ⟨rfl, b⟩
  clear zfc0 zfc1 zfc2 zff0 zff1 zff2 zfl zac0 zac1 zac2 zaf0 zaf1 zaf2 zal
  replace hT := hT.on b
  replace hF := hF.on b
  replace za := za.on b
  replace h0 := h0.on b
  replace zf := zf.on b
  replace BW := Below.step BW b
  clear b
  obtain ⟨zfc0, zfc1, zfc2, zff0, zff1, zff2, zfl⟩ := zf.cells
  obtain ⟨zac0, zac1, zac2, zaf0, zaf1, zaf2, zal⟩ := za.cells
  go_wp2_with fail
  refine (to_as hf h0 (by omega) hT _ false HB.out).mono ?_
  rintro en w5 ⟨rfl, b⟩
  clear zfc0 zfc1 zfc2 zff0 zff1 zff2 zfl zac0 zac1 zac2 zaf0 zaf1 zaf2 zal
  replace hT := hT.on b
  replace hF := hF.on b
  replace za := za.on b
  replace h0 := h0.on b
  replace zf := zf.on b
  replace BW := Below.step BW b
  clear b
  obtain ⟨zfc0, zfc1, zfc2, zff0, zff1, zff2, zfl⟩ := zf.cells
  obtain ⟨zac0, zac1, zac2, zaf0, zaf1, zaf2, zal⟩ := za.cells
  go_wp2_with fail
  refine (nought_as hf true H HN.out _).mono ?_
  rintro en w6 ⟨rfl, b⟩
  clear zfc0 zfc1 zfc2 zff0 zff1 zff2 zfl zac0 zac1 zac2 zaf0 zaf1 zaf2 zal
  replace hT := hT.on b
  replace hF := hF.on b
  replace za := za.on b
  replace h0 := h0.on b
  replace zf := zf.on b
  replace BW := Below.step BW b
  clear b
  go_wp2_with fail
  go_ret
  exact ⟨rfl, BW⟩
set_option maxHeartbeats 1000000 in
theorem turns_two_1 {B P W M E H : Nat} {low : Int} (hf : Fm B P W M E H low) (mode : Int) {n0 : Bool} {A0 : Option Addr} {l0 c0 x0 : Nat} {e0 : Int} {w : World} (h0 : Arg w A0 l0 c0 x0) (hT : Tab w) (hF : Frm w) (m1 : decide (mode < 0) = false) (m2 : decide (5 ≤ mode) = false) (gl : decide (40 < (l0 : Int)) = false) (g1 : decide (e0 < -1200) = false) (g2 : decide (1100 < e0) = false) (gz : ((blen x0 : Int) == 0) = false) (hm : mode = 2) {u v : Nat} (ha : roundS P M E H low 2 ⟨n0, x0, e0⟩ false = (u, 1, 0)) (hb : roundS P M E H low 3 ⟨!n0, x0, e0⟩ false = (v, 1, 0)) (q7 : bits BinOp.xor IntKind.u64 (u : Int) (v : Int) = (H : Int)) :
    Calls Tryd.prog 6 #[.int .i64 (B : Int), .int .i64 mode, .agg #[.bool n0, .slice A0 l0 c0, .int .i64 e0]] w fun e w' => e = .returned (.bool true) ∧ Below w.heap.size w w' := by
  subst hm
  have gl' := of_decide_eq_false gl
  have HA := Lib.hid ha
  have HB := Lib.hid hb
  have HN : Hid (sgn H true 0 = H) := Lib.hid (by unfold sgn; simp)
  clear ha hb
  go_enter Tryd.func6, Tryd.ntmps6
  go_wp2_with fail
  obtain ⟨V, hV, za, BW, sW⟩ := frame1 w 25 n0 A0 l0 c0 e0
  rw [hV]
  clear hV sW
  replace hT := hT.on BW
  replace hF := hF.on BW
  replace h0 := h0.on BW
  refine (awake4_any hT hF).mono ?_
  rintro en w1 ⟨rfl, b⟩
  replace hT := hT.on b
  replace hF := hF.on b
  replace za := za.on b
  replace h0 := h0.on b
  replace BW := Below.step BW b
  clear b
  go_wp2_with fail
  refine (of_fm hf _ hF).mono ?_
  rintro en w2 ⟨rfl, b⟩
  replace hT := hT.on b
  replace hF := hF.on b
  replace za := za.on b
  replace h0 := h0.on b
  replace BW := Below.step BW b
  clear b
  obtain ⟨zac0, zac1, zac2, zaf0, zaf1, zaf2, zal⟩ := za.cells
  go_upto_region 4 with fail
  clear zac0 zac1 zac2 zaf0 zaf1 zaf2 zal
  obtain ⟨w3, e_w3⟩ : ∃ w', w2.alloc (.cells #[.int .i64 (B : Int), .int .i64 (P : Int), .int .i64 (W : Int)] 28) = w' := ⟨_, rfl⟩
  have b : Below w2.heap.size w2 w3 := e_w3 ▸ below_lit _ _
  have hs_w3 : w3.heap.size = w2.heap.size + 1 := e_w3 ▸ size_lit w2 _ rfl
  have zf : FB w3 w2.heap.size 28 (B : Int) (P : Int) (W : Int) := e_w3 ▸ Box.made_at w2 rfl 28 (notU_int _) (notU_int _) (notU_int _)
  rw [e_w3]
  clear e_w3
  replace hT := hT.on b
  replace hF := hF.on b
  replace za := za.on b
  replace h0 := h0.on b
  replace BW := Below.step BW b
  clear b
  clear hs_w3
  obtain ⟨zfc0, zfc1, zfc2, zff0, zff1, zff2, zfl⟩ := zf.cells
  obtain ⟨zac0, zac1, zac2, zaf0, zaf1, zaf2, zal⟩ := za.cells
  go_wp2_with fail
  refine (len_any h0 (by omega)).mono ?_
  rintro en w' ⟨rfl, rfl⟩
  go_wp2_with fail
  refine (to_as hf h0 (by omega) hT _ false HA.out).mono ?_
  rintro en w4 ⟨rfl, b⟩
  clear zfc0 zfc1 zfc2 zff0 zff1 zff2 zfl zac0 zac1 zac2 zaf0 zaf1 zaf2 zal
  replace hT := hT.on b
  replace hF := hF.on b
  replace za := za.on b
  replace h0 := h0.on b
  replace zf := zf.on b
  replace BW := Below.step BW b
  clear b
  obtain ⟨zfc0, zfc1, zfc2, zff0, zff1, zff2, zfl⟩ := zf.cells
  obtain ⟨zac0, zac1, zac2, zaf0, zaf1, zaf2, zal⟩ := za.cells
  go_wp2_with fail
  refine (to_as hf h0 (by omega) hT _ false HB.out).mono ?_
  rintro en w5 ⟨rfl, b⟩
  clear zfc0 zfc1 zfc2 zff0 zff1 zff2 zfl zac0 zac1 zac2 zaf0 zaf1 zaf2 zal
  replace hT := hT.on b
  replace hF := hF.on b
  replace za := za.on b
  replace h0 := h0.on b
  replace zf := zf.on b
  replace BW := Below.step BW b
  clear b
  obtain ⟨zfc0, zfc1, zfc2, zff0, zff1, zff2, zfl⟩ := zf.cells
  obtain ⟨zac0, zac1, zac2, zaf0, zaf1, zaf2, zal⟩ := za.cells
  go_wp2_with fail
  refine (nought_as hf true H HN.out _).mono ?_
  rintro en w6 ⟨rfl, b⟩
  clear zfc0 zfc1 zfc2 zff0 zff1 zff2 zfl zac0 zac1 zac2 zaf0 zaf1 zaf2 zal
  replace hT := hT.on b
  replace hF := hF.on b
  replace za := za.on b
  replace h0 := h0.on b
  replace zf := zf.on b
  replace BW := Below.step BW b
  clear b
  go_wp2_with fail
  go_ret
  exact ⟨rfl, BW⟩
set_option maxHeartbeats 1000000 in
theorem turns_two_3 {B P W M E H : Nat} {low : Int} (hf : Fm B P W M E H low) (mode : Int) {n0 : Bool} {A0 : Option Addr} {l0 c0 x0 : Nat} {e0 : Int} {w : World} (h0 : Arg w A0 l0 c0 x0) (hT : Tab w) (hF : Frm w) (m1 : decide (mode < 0) = false) (m2 : decide (5 ≤ mode) = false) (gl : decide (40 < (l0 : Int)) = false) (g1 : decide (e0 < -1200) = false) (g2 : decide (1100 < e0) = false) (gz : ((blen x0 : Int) == 0) = false) (hm : mode = 2) {u v : Nat} (ha : roundS P M E H low 2 ⟨n0, x0, e0⟩ false = (u, 3, 0)) (hb : roundS P M E H low 3 ⟨!n0, x0, e0⟩ false = (v, 3, 0)) (q7 : bits BinOp.xor IntKind.u64 (u : Int) (v : Int) = (H : Int)) :
    Calls Tryd.prog 6 #[.int .i64 (B : Int), .int .i64 mode, .agg #[.bool n0, .slice A0 l0 c0, .int .i64 e0]] w fun e w' => e = .returned (.bool true) ∧ Below w.heap.size w w' := by
  subst hm
  have gl' := of_decide_eq_false gl
  have HA := Lib.hid ha
  have HB := Lib.hid hb
  have HN : Hid (sgn H true 0 = H) := Lib.hid (by unfold sgn; simp)
  clear ha hb
  go_enter Tryd.func6, Tryd.ntmps6
  go_wp2_with fail
  obtain ⟨V, hV, za, BW, sW⟩ := frame1 w 25 n0 A0 l0 c0 e0
  rw [hV]
  clear hV sW
  replace hT := hT.on BW
  replace hF := hF.on BW
  replace h0 := h0.on BW
  refine (awake4_any hT hF).mono ?_
  rintro en w1 ⟨rfl, b⟩
  replace hT := hT.on b
  replace hF := hF.on b
  replace za := za.on b
  replace h0 := h0.on b
  replace BW := Below.step BW b
  clear b
  go_wp2_with fail
  refine (of_fm hf _ hF).mono ?_
  rintro en w2 ⟨rfl, b⟩
  replace hT := hT.on b
  replace hF := hF.on b
  replace za := za.on b
  replace h0 := h0.on b
  replace BW := Below.step BW b
  clear b
  obtain ⟨zac0, zac1, zac2, zaf0, zaf1, zaf2, zal⟩ := za.cells
  go_upto_region 4 with fail
  clear zac0 zac1 zac2 zaf0 zaf1 zaf2 zal
  obtain ⟨w3, e_w3⟩ : ∃ w', w2.alloc (.cells #[.int .i64 (B : Int), .int .i64 (P : Int), .int .i64 (W : Int)] 28) = w' := ⟨_, rfl⟩
  have b : Below w2.heap.size w2 w3 := e_w3 ▸ below_lit _ _
  have hs_w3 : w3.heap.size = w2.heap.size + 1 := e_w3 ▸ size_lit w2 _ rfl
  have zf : FB w3 w2.heap.size 28 (B : Int) (P : Int) (W : Int) := e_w3 ▸ Box.made_at w2 rfl 28 (notU_int _) (notU_int _) (notU_int _)
  rw [e_w3]
  clear e_w3
  replace hT := hT.on b
  replace hF := hF.on b
  replace za := za.on b
  replace h0 := h0.on b
  replace BW := Below.step BW b
  clear b
  clear hs_w3
  obtain ⟨zfc0, zfc1, zfc2, zff0, zff1, zff2, zfl⟩ := zf.cells
  obtain ⟨zac0, zac1, zac2, zaf0, zaf1, zaf2, zal⟩ := za.cells
  go_wp2_with fail
  refine (len_any h0 (by omega)).mono ?_
  rintro en w' ⟨rfl, rfl⟩
  go_wp2_with fail
  refine (to_as hf h0 (by omega) hT _ false HA.out).mono ?_
  rintro en w4 ⟨rfl, b⟩
  clear zfc0 zfc1 zfc2 zff0 zff1 zff2 zfl zac0 zac1 zac2 zaf0 zaf1 zaf2 zal
  replace hT := hT.on b
  replace hF := hF.on b
  replace za := za.on b
  replace h0 := h0.on b
  replace zf := zf.on b
  replace BW := Below.step BW b
  clear b
  obtain ⟨zfc0, zfc1, zfc2, zff0, zff1, zff2, zfl⟩ := zf.cells
  obtain ⟨zac0, zac1, zac2, zaf0, zaf1, zaf2, zal⟩ := za.cells
  go_wp2_with fail
  refine (to_as hf h0 (by omega) hT _ false HB.out).mono ?_
  rintro en w5 ⟨rfl, b⟩
  clear zfc0 zfc1 zfc2 zff0 zff1 zff2 zfl zac0 zac1 zac2 zaf0 zaf1 zaf2 zal
  replace hT := hT.on b
  replace hF := hF.on b
  replace za := za.on b
  replace h0 := h0.on b
  replace zf := zf.on b
  replace BW := Below.step BW b
  clear b
  obtain ⟨zfc0, zfc1, zfc2, zff0, zff1, zff2, zfl⟩ := zf.cells
  obtain ⟨zac0, zac1, zac2, zaf0, zaf1, zaf2, zal⟩ := za.cells
  go_wp2_with fail
  refine (nought_as hf true H HN.out _).mono ?_
  rintro en w6 ⟨rfl, b⟩
  clear zfc0 zfc1 zfc2 zff0 zff1 zff2 zfl zac0 zac1 zac2 zaf0 zaf1 zaf2 zal
  replace hT := hT.on b
  replace hF := hF.on b
  replace za := za.on b
  replace h0 := h0.on b
  replace zf := zf.on b
  replace BW := Below.step BW b
  clear b
  go_wp2_with fail
  go_ret
  exact ⟨rfl, BW⟩
set_option maxHeartbeats 1000000 in
theorem turns_two_5 {B P W M E H : Nat} {low : Int} (hf : Fm B P W M E H low) (mode : Int) {n0 : Bool} {A0 : Option Addr} {l0 c0 x0 : Nat} {e0 : Int} {w : World} (h0 : Arg w A0 l0 c0 x0) (hT : Tab w) (hF : Frm w) (m1 : decide (mode < 0) = false) (m2 : decide (5 ≤ mode) = false) (gl : decide (40 < (l0 : Int)) = false) (g1 : decide (e0 < -1200) = false) (g2 : decide (1100 < e0) = false) (gz : ((blen x0 : Int) == 0) = false) (hm : mode = 2) {u v : Nat} (ha : roundS P M E H low 2 ⟨n0, x0, e0⟩ false = (u, 5, 0)) (hb : roundS P M E H low 3 ⟨!n0, x0, e0⟩ false = (v, 5, 0)) (q7 : bits BinOp.xor IntKind.u64 (u : Int) (v : Int) = (H : Int)) :
    Calls Tryd.prog 6 #[.int .i64 (B : Int), .int .i64 mode, .agg #[.bool n0, .slice A0 l0 c0, .int .i64 e0]] w fun e w' => e = .returned (.bool true) ∧ Below w.heap.size w w' := by
  subst hm
  have gl' := of_decide_eq_false gl
  have HA := Lib.hid ha
  have HB := Lib.hid hb
  have HN : Hid (sgn H true 0 = H) := Lib.hid (by unfold sgn; simp)
  clear ha hb
  go_enter Tryd.func6, Tryd.ntmps6
  go_wp2_with fail
  obtain ⟨V, hV, za, BW, sW⟩ := frame1 w 25 n0 A0 l0 c0 e0
  rw [hV]
  clear hV sW
  replace hT := hT.on BW
  replace hF := hF.on BW
  replace h0 := h0.on BW
  refine (awake4_any hT hF).mono ?_
  rintro en w1 ⟨rfl, b⟩
  replace hT := hT.on b
  replace hF := hF.on b
  replace za := za.on b
  replace h0 := h0.on b
  replace BW := Below.step BW b
  clear b
  go_wp2_with fail
  refine (of_fm hf _ hF).mono ?_
  rintro en w2 ⟨rfl, b⟩
  replace hT := hT.on b
  replace hF := hF.on b
  replace za := za.on b
  replace h0 := h0.on b
  replace BW := Below.step BW b
  clear b
  obtain ⟨zac0, zac1, zac2, zaf0, zaf1, zaf2, zal⟩ := za.cells
  go_upto_region 4 with fail
  clear zac0 zac1 zac2 zaf0 zaf1 zaf2 zal
  obtain ⟨w3, e_w3⟩ : ∃ w', w2.alloc (.cells #[.int .i64 (B : Int), .int .i64 (P : Int), .int .i64 (W : Int)] 28) = w' := ⟨_, rfl⟩
  have b : Below w2.heap.size w2 w3 := e_w3 ▸ below_lit _ _
  have hs_w3 : w3.heap.size = w2.heap.size + 1 := e_w3 ▸ size_lit w2 _ rfl
  have zf : FB w3 w2.heap.size 28 (B : Int) (P : Int) (W : Int) := e_w3 ▸ Box.made_at w2 rfl 28 (notU_int _) (notU_int _) (notU_int _)
  rw [e_w3]
  clear e_w3
  replace hT := hT.on b
  replace hF := hF.on b
  replace za := za.on b
  replace h0 := h0.on b
  replace BW := Below.step BW b
  clear b
  clear hs_w3
  obtain ⟨zfc0, zfc1, zfc2, zff0, zff1, zff2, zfl⟩ := zf.cells
  obtain ⟨zac0, zac1, zac2, zaf0, zaf1, zaf2, zal⟩ := za.cells
  go_wp2_with fail
  refine (len_any h0 (by omega)).mono ?_
  rintro en w' ⟨rfl, rfl⟩
  go_wp2_with fail
  refine (to_as hf h0 (by omega) hT _ false HA.out).mono ?_
  rintro en w4 ⟨rfl, b⟩
  clear zfc0 zfc1 zfc2 zff0 zff1 zff2 zfl zac0 zac1 zac2 zaf0 zaf1 zaf2 zal
  replace hT := hT.on b
  replace hF := hF.on b
  replace za := za.on b
  replace h0 := h0.on b
  replace zf := zf.on b
  replace BW := Below.step BW b
  clear b
  obtain ⟨zfc0, zfc1, zfc2, zff0, zff1, zff2, zfl⟩ := zf.cells
  obtain ⟨zac0, zac1, zac2, zaf0, zaf1, zaf2, zal⟩ := za.cells
  go_wp2_with fail
  refine (to_as hf h0 (by omega) hT _ false HB.out).mono ?_
  rintro en w5 ⟨rfl, b⟩
  clear zfc0 zfc1 zfc2 zff0 zff1 zff2 zfl zac0 zac1 zac2 zaf0 zaf1 zaf2 zal
  replace hT := hT.on b
  replace hF := hF.on b
  replace za := za.on b
  replace h0 := h0.on b
  replace zf := zf.on b
  replace BW := Below.step BW b
  clear b
  obtain ⟨zfc0, zfc1, zfc2, zff0, zff1, zff2, zfl⟩ := zf.cells
  obtain ⟨zac0, zac1, zac2, zaf0, zaf1, zaf2, zal⟩ := za.cells
  go_wp2_with fail
  refine (nought_as hf true H HN.out _).mono ?_
  rintro en w6 ⟨rfl, b⟩
  clear zfc0 zfc1 zfc2 zff0 zff1 zff2 zfl zac0 zac1 zac2 zaf0 zaf1 zaf2 zal
  replace hT := hT.on b
  replace hF := hF.on b
  replace za := za.on b
  replace h0 := h0.on b
  replace zf := zf.on b
  replace BW := Below.step BW b
  clear b
  go_wp2_with fail
  go_ret
  exact ⟨rfl, BW⟩
set_option maxHeartbeats 1000000 in
theorem turns_three_0 {B P W M E H : Nat} {low : Int} (hf : Fm B P W M E H low) (mode : Int) {n0 : Bool} {A0 : Option Addr} {l0 c0 x0 : Nat} {e0 : Int} {w : World} (h0 : Arg w A0 l0 c0 x0) (hT : Tab w) (hF : Frm w) (m1 : decide (mode < 0) = false) (m2 : decide (5 ≤ mode) = false) (gl : decide (40 < (l0 : Int)) = false) (g1 : decide (e0 < -1200) = false) (g2 : decide (1100 < e0) = false) (gz : ((blen x0 : Int) == 0) = false) (hm : mode = 3) {u v : Nat} (ha : roundS P M E H low 3 ⟨n0, x0, e0⟩ false = (u, 0, 0)) (hb : roundS P M E H low 2 ⟨!n0, x0, e0⟩ false = (v, 0, 0)) (q7 : bits BinOp.xor IntKind.u64 (u : Int) (v : Int) = (H : Int)) :
    Calls Tryd.prog 6 #[.int .i64 (B : Int), .int .i64 mode, .agg #[.bool n0, .slice A0 l0 c0, .int .i64 e0]] w fun e w' => e = .returned (.bool true) ∧ Below w.heap.size w w' := by
  subst hm
  have gl' := of_decide_eq_false gl
  have HA := Lib.hid ha
  have HB := Lib.hid hb
  have HN : Hid (sgn H true 0 = H) := Lib.hid (by unfold sgn; simp)
  clear ha hb
  go_enter Tryd.func6, Tryd.ntmps6
  go_wp2_with fail
  obtain ⟨V, hV, za, BW, sW⟩ := frame1 w 25 n0 A0 l0 c0 e0
  rw [hV]
  clear hV sW
  replace hT := hT.on BW
  replace hF := hF.on BW
  replace h0 := h0.on BW
  refine (awake4_any hT hF).mono ?_
  rintro en w1 ⟨rfl, b⟩
  replace hT := hT.on b
  replace hF := hF.on b
  replace za := za.on b
  replace h0 := h0.on b
  replace BW := Below.step BW b
  clear b
  go_wp2_with fail
  refine (of_fm hf _ hF).mono ?_
  rintro en w2 ⟨rfl, b⟩
  replace hT := hT.on b
  replace hF := hF.on b
  replace za := za.on b
  replace h0 := h0.on b
  replace BW := Below.step BW b
  clear b
  obtain ⟨zac0, zac1, zac2, zaf0, zaf1, zaf2, zal⟩ := za.cells
  go_upto_region 4 with fail
  clear zac0 zac1 zac2 zaf0 zaf1 zaf2 zal
  obtain ⟨w3, e_w3⟩ : ∃ w', w2.alloc (.cells #[.int .i64 (B : Int), .int .i64 (P : Int), .int .i64 (W : Int)] 28) = w' := ⟨_, rfl⟩
  have b : Below w2.heap.size w2 w3 := e_w3 ▸ below_lit _ _
  have hs_w3 : w3.heap.size = w2.heap.size + 1 := e_w3 ▸ size_lit w2 _ rfl
  have zf : FB w3 w2.heap.size 28 (B : Int) (P : Int) (W : Int) := e_w3 ▸ Box.made_at w2 rfl 28 (notU_int _) (notU_int _) (notU_int _)
  rw [e_w3]
  clear e_w3
  replace hT := hT.on b
  replace hF := hF.on b
  replace za := za.on b
  replace h0 := h0.on b
  replace BW := Below.step BW b
  clear b
  clear hs_w3
  obtain ⟨zfc0, zfc1, zfc2, zff0, zff1, zff2, zfl⟩ := zf.cells
  obtain ⟨zac0, zac1, zac2, zaf0, zaf1, zaf2, zal⟩ := za.cells
  go_wp2_with fail
  refine (len_any h0 (by omega)).mono ?_
  rintro en w' ⟨rfl, rfl⟩
  go_wp2_with fail
  refine (to_as hf h0 (by omega) hT _ false HA.out).mono ?_
  rintro en w4 ⟨rfl, b⟩
  clear zfc0 zfc1 zfc2 zff0 zff1 zff2 zfl zac0 zac1 zac2 zaf0 zaf1 zaf2 zal
  replace hT := hT.on b
  replace hF := hF.on b
  replace za := za.on b
  replace h0 := h0.on b
  replace zf := zf.on b
  replace BW := Below.step BW b
  clear b
  obtain ⟨zfc0, zfc1, zfc2, zff0, zff1, zff2, zfl⟩ := zf.cells
  obtain ⟨zac0, zac1, zac2, zaf0, zaf1, zaf2, zal⟩ := za.cells
  go_wp2_with fail
  refine (to_as hf h0 (by omega) hT _ false HB.out).mono ?_
  rintro en w5 ⟨rfl, b⟩
  clear zfc0 zfc1 zfc2 zff0 zff1 zff2 zfl zac0 zac1 zac2 zaf0 zaf1 zaf2 zal
  replace hT := hT.on b
  replace hF := hF.on b
  replace za := za.on b
  replace h0 := h0.on b
  replace zf := zf.on b
  replace BW := Below.step BW b
  clear b
  obtain ⟨zfc0, zfc1, zfc2, zff0, zff1, zff2, zfl⟩ := zf.cells
  obtain ⟨zac0, zac1, zac2, zaf0, zaf1, zaf2, zal⟩ := za.cells
  go_wp2_with fail
  refine (nought_as hf true H HN.out _).mono ?_
  rintro en w6 ⟨rfl, b⟩
  clear zfc0 zfc1 zfc2 zff0 zff1 zff2 zfl zac0 zac1 zac2 zaf0 zaf1 zaf2 zal
  replace hT := hT.on b
  replace hF := hF.on b
  replace za := za.on b
  replace h0 := h0.on b
  replace zf := zf.on b
  replace BW := Below.step BW b
  clear b
  go_wp2_with fail
  go_ret
  exact ⟨rfl, BW⟩
set_option maxHeartbeats 1000000 in
theorem turns_three_1 {B P W M E H : Nat} {low : Int} (hf : Fm B P W M E H low) (mode : Int) {n0 : Bool} {A0 : Option Addr} {l0 c0 x0 : Nat} {e0 : Int} {w : World} (h0 : Arg w A0 l0 c0 x0) (hT : Tab w) (hF : Frm w) (m1 : decide (mode < 0) = false) (m2 : decide (5 ≤ mode) = false) (gl : decide (40 < (l0 : Int)) = false) (g1 : decide (e0 < -1200) = false) (g2 : decide (1100 < e0) = false) (gz : ((blen x0 : Int) == 0) = false) (hm : mode = 3) {u v : Nat} (ha : roundS P M E H low 3 ⟨n0, x0, e0⟩ false = (u, 1, 0)) (hb : roundS P M E H low 2 ⟨!n0, x0, e0⟩ false = (v, 1, 0)) (q7 : bits BinOp.xor IntKind.u64 (u : Int) (v : Int) = (H : Int)) :
    Calls Tryd.prog 6 #[.int .i64 (B : Int), .int .i64 mode, .agg #[.bool n0, .slice A0 l0 c0, .int .i64 e0]] w fun e w' => e = .returned (.bool true) ∧ Below w.heap.size w w' := by
  subst hm
  have gl' := of_decide_eq_false gl
  have HA := Lib.hid ha
  have HB := Lib.hid hb
  have HN : Hid (sgn H true 0 = H) := Lib.hid (by unfold sgn; simp)
  clear ha hb
  go_enter Tryd.func6, Tryd.ntmps6
  go_wp2_with fail
  obtain ⟨V, hV, za, BW, sW⟩ := frame1 w 25 n0 A0 l0 c0 e0
  rw [hV]
  clear hV sW
  replace hT := hT.on BW
  replace hF := hF.on BW
  replace h0 := h0.on BW
  refine (awake4_any hT hF).mono ?_
  rintro en w1 ⟨rfl, b⟩
  replace hT := hT.on b
  replace hF := hF.on b
  replace za := za.on b
  replace h0 := h0.on b
  replace BW := Below.step BW b
  clear b
  go_wp2_with fail
  refine (of_fm hf _ hF).mono ?_
  rintro en w2 ⟨rfl, b⟩
  replace hT := hT.on b
  replace hF := hF.on b
  replace za := za.on b
  replace h0 := h0.on b
  replace BW := Below.step BW b
  clear b
  obtain ⟨zac0, zac1, zac2, zaf0, zaf1, zaf2, zal⟩ := za.cells
  go_upto_region 4 with fail
  clear zac0 zac1 zac2 zaf0 zaf1 zaf2 zal
  obtain ⟨w3, e_w3⟩ : ∃ w', w2.alloc (.cells #[.int .i64 (B : Int), .int .i64 (P : Int), .int .i64 (W : Int)] 28) = w' := ⟨_, rfl⟩
  have b : Below w2.heap.size w2 w3 := e_w3 ▸ below_lit _ _
  have hs_w3 : w3.heap.size = w2.heap.size + 1 := e_w3 ▸ size_lit w2 _ rfl
  have zf : FB w3 w2.heap.size 28 (B : Int) (P : Int) (W : Int) := e_w3 ▸ Box.made_at w2 rfl 28 (notU_int _) (notU_int _) (notU_int _)
  rw [e_w3]
  clear e_w3
  replace hT := hT.on b
  replace hF := hF.on b
  replace za := za.on b
  replace h0 := h0.on b
  replace BW := Below.step BW b
  clear b
  clear hs_w3
  obtain ⟨zfc0, zfc1, zfc2, zff0, zff1, zff2, zfl⟩ := zf.cells
  obtain ⟨zac0, zac1, zac2, zaf0, zaf1, zaf2, zal⟩ := za.cells
  go_wp2_with fail
  refine (len_any h0 (by omega)).mono ?_
  rintro en w' ⟨rfl, rfl⟩
  go_wp2_with fail
  refine (to_as hf h0 (by omega) hT _ false HA.out).mono ?_
  rintro en w4 ⟨rfl, b⟩
  clear zfc0 zfc1 zfc2 zff0 zff1 zff2 zfl zac0 zac1 zac2 zaf0 zaf1 zaf2 zal
  replace hT := hT.on b
  replace hF := hF.on b
  replace za := za.on b
  replace h0 := h0.on b
  replace zf := zf.on b
  replace BW := Below.step BW b
  clear b
  obtain ⟨zfc0, zfc1, zfc2, zff0, zff1, zff2, zfl⟩ := zf.cells
  obtain ⟨zac0, zac1, zac2, zaf0, zaf1, zaf2, zal⟩ := za.cells
  go_wp2_with fail
  refine (to_as hf h0 (by omega) hT _ false HB.out).mono ?_
  rintro en w5 ⟨rfl, b⟩
  clear zfc0 zfc1 zfc2 zff0 zff1 zff2 zfl zac0 zac1 zac2 zaf0 zaf1 zaf2 zal
  replace hT := hT.on b
  replace hF := hF.on b
  replace za := za.on b
  replace h0 := h0.on b
  replace zf := zf.on b
  replace BW := Below.step BW b
  clear b
  obtain ⟨zfc0, zfc1, zfc2, zff0, zff1, zff2, zfl⟩ := zf.cells
  obtain ⟨zac0, zac1, zac2, zaf0, zaf1, zaf2, zal⟩ := za.cells
  go_wp2_with fail
  refine (nought_as hf true H HN.out _).mono ?_
  rintro en w6 ⟨rfl, b⟩
  clear zfc0 zfc1 zfc2 zff0 zff1 zff2 zfl zac0 zac1 zac2 zaf0 zaf1 zaf2 zal
  replace hT := hT.on b
  replace hF := hF.on b
  replace za := za.on b
  replace h0 := h0.on b
  replace zf := zf.on b
  replace BW := Below.step BW b
  clear b
  go_wp2_with fail
  go_ret
  exact ⟨rfl, BW⟩
set_option maxHeartbeats 1000000 in
theorem turns_three_3 {B P W M E H : Nat} {low : Int} (hf : Fm B P W M E H low) (mode : Int) {n0 : Bool} {A0 : Option Addr} {l0 c0 x0 : Nat} {e0 : Int} {w : World} (h0 : Arg w A0 l0 c0 x0) (hT : Tab w) (hF : Frm w) (m1 : decide (mode < 0) = false) (m2 : decide (5 ≤ mode) = false) (gl : decide (40 < (l0 : Int)) = false) (g1 : decide (e0 < -1200) = false) (g2 : decide (1100 < e0) = false) (gz : ((blen x0 : Int) == 0) = false) (hm : mode = 3) {u v : Nat} (ha : roundS P M E H low 3 ⟨n0, x0, e0⟩ false = (u, 3, 0)) (hb : roundS P M E H low 2 ⟨!n0, x0, e0⟩ false = (v, 3, 0)) (q7 : bits BinOp.xor IntKind.u64 (u : Int) (v : Int) = (H : Int)) :
    Calls Tryd.prog 6 #[.int .i64 (B : Int), .int .i64 mode, .agg #[.bool n0, .slice A0 l0 c0, .int .i64 e0]] w fun e w' => e = .returned (.bool true) ∧ Below w.heap.size w w' := by
  subst hm
  have gl' := of_decide_eq_false gl
  have HA := Lib.hid ha
  have HB := Lib.hid hb
  have HN : Hid (sgn H true 0 = H) := Lib.hid (by unfold sgn; simp)
  clear ha hb
  go_enter Tryd.func6, Tryd.ntmps6
  go_wp2_with fail
  obtain ⟨V, hV, za, BW, sW⟩ := frame1 w 25 n0 A0 l0 c0 e0
  rw [hV]
  clear hV sW
  replace hT := hT.on BW
  replace hF := hF.on BW
  replace h0 := h0.on BW
  refine (awake4_any hT hF).mono ?_
  rintro en w1 ⟨rfl, b⟩
  replace hT := hT.on b
  replace hF := hF.on b
  replace za := za.on b
  replace h0 := h0.on b
  replace BW := Below.step BW b
  clear b
  go_wp2_with fail
  refine (of_fm hf _ hF).mono ?_
  rintro en w2 ⟨rfl, b⟩
  replace hT := hT.on b
  replace hF := hF.on b
  replace za := za.on b
  replace h0 := h0.on b
  replace BW := Below.step BW b
  clear b
  obtain ⟨zac0, zac1, zac2, zaf0, zaf1, zaf2, zal⟩ := za.cells
  go_upto_region 4 with fail
  clear zac0 zac1 zac2 zaf0 zaf1 zaf2 zal
  obtain ⟨w3, e_w3⟩ : ∃ w', w2.alloc (.cells #[.int .i64 (B : Int), .int .i64 (P : Int), .int .i64 (W : Int)] 28) = w' := ⟨_, rfl⟩
  have b : Below w2.heap.size w2 w3 := e_w3 ▸ below_lit _ _
  have hs_w3 : w3.heap.size = w2.heap.size + 1 := e_w3 ▸ size_lit w2 _ rfl
  have zf : FB w3 w2.heap.size 28 (B : Int) (P : Int) (W : Int) := e_w3 ▸ Box.made_at w2 rfl 28 (notU_int _) (notU_int _) (notU_int _)
  rw [e_w3]
  clear e_w3
  replace hT := hT.on b
  replace hF := hF.on b
  replace za := za.on b
  replace h0 := h0.on b
  replace BW := Below.step BW b
  clear b
  clear hs_w3
  obtain ⟨zfc0, zfc1, zfc2, zff0, zff1, zff2, zfl⟩ := zf.cells
  obtain ⟨zac0, zac1, zac2, zaf0, zaf1, zaf2, zal⟩ := za.cells
  go_wp2_with fail
  refine (len_any h0 (by omega)).mono ?_
  rintro en w' ⟨rfl, rfl⟩
  go_wp2_with fail
  refine (to_as hf h0 (by omega) hT _ false HA.out).mono ?_
  rintro en w4 ⟨rfl, b⟩
  clear zfc0 zfc1 zfc2 zff0 zff1 zff2 zfl zac0 zac1 zac2 zaf0 zaf1 zaf2 zal
  replace hT := hT.on b
  replace hF := hF.on b
  replace za := za.on b
  replace h0 := h0.on b
  replace zf := zf.on b
  replace BW := Below.step BW b
  clear b
  obtain ⟨zfc0, zfc1, zfc2, zff0, zff1, zff2, zfl⟩ := zf.cells
  obtain ⟨zac0, zac1, zac2, zaf0, zaf1, zaf2, zal⟩ := za.cells
  go_wp2_with fail
  refine (to_as hf h0 (by omega) hT _ false HB.out).mono ?_
  rintro en w5 ⟨rfl, b⟩
  clear zfc0 zfc1 zfc2 zff0 zff1 zff2 zfl zac0 zac1 zac2 zaf0 zaf1 zaf2 zal
  replace hT := hT.on b
  replace hF := hF.on b
  replace za := za.on b
  replace h0 := h0.on b
  replace zf := zf.on b
  replace BW := Below.step BW b
  clear b
  obtain ⟨zfc0, zfc1, zfc2, zff0, zff1, zff2, zfl⟩ := zf.cells
  obtain ⟨zac0, zac1, zac2, zaf0, zaf1, zaf2, zal⟩ := za.cells
  go_wp2_with fail
  refine (nought_as hf true H HN.out _).mono ?_
  rintro en w6 ⟨rfl, b⟩
  clear zfc0 zfc1 zfc2 zff0 zff1 zff2 zfl zac0 zac1 zac2 zaf0 zaf1 zaf2 zal
  replace hT := hT.on b
  replace hF := hF.on b
  replace za := za.on b
  replace h0 := h0.on b
  replace zf := zf.on b
  replace BW := Below.step BW b
  clear b
  go_wp2_with fail
  go_ret
  exact ⟨rfl, BW⟩
set_option maxHeartbeats 1000000 in
theorem turns_three_5 {B P W M E H : Nat} {low : Int} (hf : Fm B P W M E H low) (mode : Int) {n0 : Bool} {A0 : Option Addr} {l0 c0 x0 : Nat} {e0 : Int} {w : World} (h0 : Arg w A0 l0 c0 x0) (hT : Tab w) (hF : Frm w) (m1 : decide (mode < 0) = false) (m2 : decide (5 ≤ mode) = false) (gl : decide (40 < (l0 : Int)) = false) (g1 : decide (e0 < -1200) = false) (g2 : decide (1100 < e0) = false) (gz : ((blen x0 : Int) == 0) = false) (hm : mode = 3) {u v : Nat} (ha : roundS P M E H low 3 ⟨n0, x0, e0⟩ false = (u, 5, 0)) (hb : roundS P M E H low 2 ⟨!n0, x0, e0⟩ false = (v, 5, 0)) (q7 : bits BinOp.xor IntKind.u64 (u : Int) (v : Int) = (H : Int)) :
    Calls Tryd.prog 6 #[.int .i64 (B : Int), .int .i64 mode, .agg #[.bool n0, .slice A0 l0 c0, .int .i64 e0]] w fun e w' => e = .returned (.bool true) ∧ Below w.heap.size w w' := by
  subst hm
  have gl' := of_decide_eq_false gl
  have HA := Lib.hid ha
  have HB := Lib.hid hb
  have HN : Hid (sgn H true 0 = H) := Lib.hid (by unfold sgn; simp)
  clear ha hb
  go_enter Tryd.func6, Tryd.ntmps6
  go_wp2_with fail
  obtain ⟨V, hV, za, BW, sW⟩ := frame1 w 25 n0 A0 l0 c0 e0
  rw [hV]
  clear hV sW
  replace hT := hT.on BW
  replace hF := hF.on BW
  replace h0 := h0.on BW
  refine (awake4_any hT hF).mono ?_
  rintro en w1 ⟨rfl, b⟩
  replace hT := hT.on b
  replace hF := hF.on b
  replace za := za.on b
  replace h0 := h0.on b
  replace BW := Below.step BW b
  clear b
  go_wp2_with fail
  refine (of_fm hf _ hF).mono ?_
  rintro en w2 ⟨rfl, b⟩
  replace hT := hT.on b
  replace hF := hF.on b
  replace za := za.on b
  replace h0 := h0.on b
  replace BW := Below.step BW b
  clear b
  obtain ⟨zac0, zac1, zac2, zaf0, zaf1, zaf2, zal⟩ := za.cells
  go_upto_region 4 with fail
  clear zac0 zac1 zac2 zaf0 zaf1 zaf2 zal
  obtain ⟨w3, e_w3⟩ : ∃ w', w2.alloc (.cells #[.int .i64 (B : Int), .int .i64 (P : Int), .int .i64 (W : Int)] 28) = w' := ⟨_, rfl⟩
  have b : Below w2.heap.size w2 w3 := e_w3 ▸ below_lit _ _
  have hs_w3 : w3.heap.size = w2.heap.size + 1 := e_w3 ▸ size_lit w2 _ rfl
  have zf : FB w3 w2.heap.size 28 (B : Int) (P : Int) (W : Int) := e_w3 ▸ Box.made_at w2 rfl 28 (notU_int _) (notU_int _) (notU_int _)
  rw [e_w3]
  clear e_w3
  replace hT := hT.on b
  replace hF := hF.on b
  replace za := za.on b
  replace h0 := h0.on b
  replace BW := Below.step BW b
  clear b
  clear hs_w3
  obtain ⟨zfc0, zfc1, zfc2, zff0, zff1, zff2, zfl⟩ := zf.cells
  obtain ⟨zac0, zac1, zac2, zaf0, zaf1, zaf2, zal⟩ := za.cells
  go_wp2_with fail
  refine (len_any h0 (by omega)).mono ?_
  rintro en w' ⟨rfl, rfl⟩
  go_wp2_with fail
  refine (to_as hf h0 (by omega) hT _ false HA.out).mono ?_
  rintro en w4 ⟨rfl, b⟩
  clear zfc0 zfc1 zfc2 zff0 zff1 zff2 zfl zac0 zac1 zac2 zaf0 zaf1 zaf2 zal
  replace hT := hT.on b
  replace hF := hF.on b
  replace za := za.on b
  replace h0 := h0.on b
  replace zf := zf.on b
  replace BW := Below.step BW b
  clear b
  obtain ⟨zfc0, zfc1, zfc2, zff0, zff1, zff2, zfl⟩ := zf.cells
  obtain ⟨zac0, zac1, zac2, zaf0, zaf1, zaf2, zal⟩ := za.cells
  go_wp2_with fail
  refine (to_as hf h0 (by omega) hT _ false HB.out).mono ?_
  rintro en w5 ⟨rfl, b⟩
  clear zfc0 zfc1 zfc2 zff0 zff1 zff2 zfl zac0 zac1 zac2 zaf0 zaf1 zaf2 zal
  replace hT := hT.on b
  replace hF := hF.on b
  replace za := za.on b
  replace h0 := h0.on b
  replace zf := zf.on b
  replace BW := Below.step BW b
  clear b
  obtain ⟨zfc0, zfc1, zfc2, zff0, zff1, zff2, zfl⟩ := zf.cells
  obtain ⟨zac0, zac1, zac2, zaf0, zaf1, zaf2, zal⟩ := za.cells
  go_wp2_with fail
  refine (nought_as hf true H HN.out _).mono ?_
  rintro en w6 ⟨rfl, b⟩
  clear zfc0 zfc1 zfc2 zff0 zff1 zff2 zfl zac0 zac1 zac2 zaf0 zaf1 zaf2 zal
  replace hT := hT.on b
  replace hF := hF.on b
  replace za := za.on b
  replace h0 := h0.on b
  replace zf := zf.on b
  replace BW := Below.step BW b
  clear b
  go_wp2_with fail
  go_ret
  exact ⟨rfl, BW⟩
set_option maxHeartbeats 1000000 in
theorem turns_rest_0 {B P W M E H : Nat} {low : Int} (hf : Fm B P W M E H low) (mode : Int) {n0 : Bool} {A0 : Option Addr} {l0 c0 x0 : Nat} {e0 : Int} {w : World} (h0 : Arg w A0 l0 c0 x0) (hT : Tab w) (hF : Frm w) (m1 : decide (mode < 0) = false) (m2 : decide (5 ≤ mode) = false) (gl : decide (40 < (l0 : Int)) = false) (g1 : decide (e0 < -1200) = false) (g2 : decide (1100 < e0) = false) (gz : ((blen x0 : Int) == 0) = false) (d2 : (mode == 2) = false) (d3 : (mode == 3) = false) {u v : Nat} (ha : roundS P M E H low mode ⟨n0, x0, e0⟩ false = (u, 0, 0)) (hb : roundS P M E H low mode ⟨!n0, x0, e0⟩ false = (v, 0, 0)) (q7 : bits BinOp.xor IntKind.u64 (u : Int) (v : Int) = (H : Int)) :
    Calls Tryd.prog 6 #[.int .i64 (B : Int), .int .i64 mode, .agg #[.bool n0, .slice A0 l0 c0, .int .i64 e0]] w fun e w' => e = .returned (.bool true) ∧ Below w.heap.size w w' := by
  have gl' := of_decide_eq_false gl
  have HA := Lib.hid ha
  have HB := Lib.hid hb
  have HN : Hid (sgn H true 0 = H) := Lib.hid (by unfold sgn; simp)
  clear ha hb
  go_enter Tryd.func6, Tryd.ntmps6
  go_wp2_with fail
  obtain ⟨V, hV, za, BW, sW⟩ := frame1 w 25 n0 A0 l0 c0 e0
  rw [hV]
  clear hV sW
  replace hT := hT.on BW
  replace hF := hF.on BW
  replace h0 := h0.on BW
  refine (awake4_any hT hF).mono ?_
  rintro en w1 ⟨rfl, b⟩
  replace hT := hT.on b
  replace hF := hF.on b
  replace za := za.on b
  replace h0 := h0.on b
  replace BW := Below.step BW b
  clear b
  go_wp2_with fail
  refine (of_fm hf _ hF).mono ?_
  rintro en w2 ⟨rfl, b⟩
  replace hT := hT.on b
  replace hF := hF.on b
  replace za := za.on b
  replace h0 := h0.on b
  replace BW := Below.step BW b
  clear b
  obtain ⟨zac0, zac1, zac2, zaf0, zaf1, zaf2, zal⟩ := za.cells
  go_upto_region 4 with fail
  clear zac0 zac1 zac2 zaf0 zaf1 zaf2 zal
  obtain ⟨w3, e_w3⟩ : ∃ w', w2.alloc (.cells #[.int .i64 (B : Int), .int .i64 (P : Int), .int .i64 (W : Int)] 28) = w' := ⟨_, rfl⟩
  have b : Below w2.heap.size w2 w3 := e_w3 ▸ below_lit _ _
  have hs_w3 : w3.heap.size = w2.heap.size + 1 := e_w3 ▸ size_lit w2 _ rfl
  have zf : FB w3 w2.heap.size 28 (B : Int) (P : Int) (W : Int) := e_w3 ▸ Box.made_at w2 rfl 28 (notU_int _) (notU_int _) (notU_int _)
  rw [e_w3]
  clear e_w3
  replace hT := hT.on b
  replace hF := hF.on b
  replace za := za.on b
  replace h0 := h0.on b
  replace BW := Below.step BW b
  clear b
  clear hs_w3
  obtain ⟨zfc0, zfc1, zfc2, zff0, zff1, zff2, zfl⟩ := zf.cells
  obtain ⟨zac0, zac1, zac2, zaf0, zaf1, zaf2, zal⟩ := za.cells
  go_wp2_with fail
  refine (len_any h0 (by omega)).mono ?_
  rintro en w' ⟨rfl, rfl⟩
  go_wp2_with fail
  refine (to_as hf h0 (by omega) hT _ false HA.out).mono ?_
  rintro en w4 ⟨rfl, b⟩
  clear zfc0 zfc1 zfc2 zff0 zff1 zff2 zfl zac0 zac1 zac2 zaf0 zaf1 zaf2 zal
  replace hT := hT.on b
  replace hF := hF.on b
  replace za := za.on b
  replace h0 := h0.on b
  replace zf := zf.on b
  replace BW := Below.step BW b
  clear b
  obtain ⟨zfc0, zfc1, zfc2, zff0, zff1, zff2, zfl⟩ := zf.cells
  obtain ⟨zac0, zac1, zac2, zaf0, zaf1, zaf2, zal⟩ := za.cells
  go_wp2_with fail
  refine (to_as hf h0 (by omega) hT _ false HB.out).mono ?_
  rintro en w5 ⟨rfl, b⟩
  clear zfc0 zfc1 zfc2 zff0 zff1 zff2 zfl zac0 zac1 zac2 zaf0 zaf1 zaf2 zal
  replace hT := hT.on b
  replace hF := hF.on b
  replace za := za.on b
  replace h0 := h0.on b
  replace zf := zf.on b
  replace BW := Below.step BW b
  clear b
  obtain ⟨zfc0, zfc1, zfc2, zff0, zff1, zff2, zfl⟩ := zf.cells
  obtain ⟨zac0, zac1, zac2, zaf0, zaf1, zaf2, zal⟩ := za.cells
  go_wp2_with fail
  refine (nought_as hf true H HN.out _).mono ?_
  rintro en w6 ⟨rfl, b⟩
  clear zfc0 zfc1 zfc2 zff0 zff1 zff2 zfl zac0 zac1 zac2 zaf0 zaf1 zaf2 zal
  replace hT := hT.on b
  replace hF := hF.on b
  replace za := za.on b
  replace h0 := h0.on b
  replace zf := zf.on b
  replace BW := Below.step BW b
  clear b
  go_wp2_with fail
  go_ret
  exact ⟨rfl, BW⟩
set_option maxHeartbeats 1000000 in
theorem turns_rest_1 {B P W M E H : Nat} {low : Int} (hf : Fm B P W M E H low) (mode : Int) {n0 : Bool} {A0 : Option Addr} {l0 c0 x0 : Nat} {e0 : Int} {w : World} (h0 : Arg w A0 l0 c0 x0) (hT : Tab w) (hF : Frm w) (m1 : decide (mode < 0) = false) (m2 : decide (5 ≤ mode) = false) (gl : decide (40 < (l0 : Int)) = false) (g1 : decide (e0 < -1200) = false) (g2 : decide (1100 < e0) = false) (gz : ((blen x0 : Int) == 0) = false) (d2 : (mode == 2) = false) (d3 : (mode == 3) = false) {u v : Nat} (ha : roundS P M E H low mode ⟨n0, x0, e0⟩ false = (u, 1, 0)) (hb : roundS P M E H low mode ⟨!n0, x0, e0⟩ false = (v, 1, 0)) (q7 : bits BinOp.xor IntKind.u64 (u : Int) (v : Int) = (H : Int)) :
    Calls Tryd.prog 6 #[.int .i64 (B : Int), .int .i64 mode, .agg #[.bool n0, .slice A0 l0 c0, .int .i64 e0]] w fun e w' => e = .returned (.bool true) ∧ Below w.heap.size w w' := by
  have gl' := of_decide_eq_false gl
  have HA := Lib.hid ha
  have HB := Lib.hid hb
  have HN : Hid (sgn H true 0 = H) := Lib.hid (by unfold sgn; simp)
  clear ha hb
  go_enter Tryd.func6, Tryd.ntmps6
  go_wp2_with fail
  obtain ⟨V, hV, za, BW, sW⟩ := frame1 w 25 n0 A0 l0 c0 e0
  rw [hV]
  clear hV sW
  replace hT := hT.on BW
  replace hF := hF.on BW
  replace h0 := h0.on BW
  refine (awake4_any hT hF).mono ?_
  rintro en w1 ⟨rfl, b⟩
  replace hT := hT.on b
  replace hF := hF.on b
  replace za := za.on b
  replace h0 := h0.on b
  replace BW := Below.step BW b
  clear b
  go_wp2_with fail
  refine (of_fm hf _ hF).mono ?_
  rintro en w2 ⟨rfl, b⟩
  replace hT := hT.on b
  replace hF := hF.on b
  replace za := za.on b
  replace h0 := h0.on b
  replace BW := Below.step BW b
  clear b
  obtain ⟨zac0, zac1, zac2, zaf0, zaf1, zaf2, zal⟩ := za.cells
  go_upto_region 4 with fail
  clear zac0 zac1 zac2 zaf0 zaf1 zaf2 zal
  obtain ⟨w3, e_w3⟩ : ∃ w', w2.alloc (.cells #[.int .i64 (B : Int), .int .i64 (P : Int), .int .i64 (W : Int)] 28) = w' := ⟨_, rfl⟩
  have b : Below w2.heap.size w2 w3 := e_w3 ▸ below_lit _ _
  have hs_w3 : w3.heap.size = w2.heap.size + 1 := e_w3 ▸ size_lit w2 _ rfl
  have zf : FB w3 w2.heap.size 28 (B : Int) (P : Int) (W : Int) := e_w3 ▸ Box.made_at w2 rfl 28 (notU_int _) (notU_int _) (notU_int _)
  rw [e_w3]
  clear e_w3
  replace hT := hT.on b
  replace hF := hF.on b
  replace za := za.on b
  replace h0 := h0.on b
  replace BW := Below.step BW b
  clear b
  clear hs_w3
  obtain ⟨zfc0, zfc1, zfc2, zff0, zff1, zff2, zfl⟩ := zf.cells
  obtain ⟨zac0, zac1, zac2, zaf0, zaf1, zaf2, zal⟩ := za.cells
  go_wp2_with fail
  refine (len_any h0 (by omega)).mono ?_
  rintro en w' ⟨rfl, rfl⟩
  go_wp2_with fail
  refine (to_as hf h0 (by omega) hT _ false HA.out).mono ?_
  rintro en w4 ⟨rfl, b⟩
  clear zfc0 zfc1 zfc2 zff0 zff1 zff2 zfl zac0 zac1 zac2 zaf0 zaf1 zaf2 zal
  replace hT := hT.on b
  replace hF := hF.on b
  replace za := za.on b
  replace h0 := h0.on b
  replace zf := zf.on b
  replace BW := Below.step BW b
  clear b
  obtain ⟨zfc0, zfc1, zfc2, zff0, zff1, zff2, zfl⟩ := zf.cells
  obtain ⟨zac0, zac1, zac2, zaf0, zaf1, zaf2, zal⟩ := za.cells
  go_wp2_with fail
  refine (to_as hf h0 (by omega) hT _ false HB.out).mono ?_
  rintro en w5 ⟨rfl, b⟩
  clear zfc0 zfc1 zfc2 zff0 zff1 zff2 zfl zac0 zac1 zac2 zaf0 zaf1 zaf2 zal
  replace hT := hT.on b
  replace hF := hF.on b
  replace za := za.on b
  replace h0 := h0.on b
  replace zf := zf.on b
  replace BW := Below.step BW b
  clear b
  obtain ⟨zfc0, zfc1, zfc2, zff0, zff1, zff2, zfl⟩ := zf.cells
  obtain ⟨zac0, zac1, zac2, zaf0, zaf1, zaf2, zal⟩ := za.cells
  go_wp2_with fail
  refine (nought_as hf true H HN.out _).mono ?_
  rintro en w6 ⟨rfl, b⟩
  clear zfc0 zfc1 zfc2 zff0 zff1 zff2 zfl zac0 zac1 zac2 zaf0 zaf1 zaf2 zal
  replace hT := hT.on b
  replace hF := hF.on b
  replace za := za.on b
  replace h0 := h0.on b
  replace zf := zf.on b
  replace BW := Below.step BW b
  clear b
  go_wp2_with fail
  go_ret
  exact ⟨rfl, BW⟩
set_option maxHeartbeats 1000000 in
theorem turns_rest_3 {B P W M E H : Nat} {low : Int} (hf : Fm B P W M E H low) (mode : Int) {n0 : Bool} {A0 : Option Addr} {l0 c0 x0 : Nat} {e0 : Int} {w : World} (h0 : Arg w A0 l0 c0 x0) (hT : Tab w) (hF : Frm w) (m1 : decide (mode < 0) = false) (m2 : decide (5 ≤ mode) = false) (gl : decide (40 < (l0 : Int)) = false) (g1 : decide (e0 < -1200) = false) (g2 : decide (1100 < e0) = false) (gz : ((blen x0 : Int) == 0) = false) (d2 : (mode == 2) = false) (d3 : (mode == 3) = false) {u v : Nat} (ha : roundS P M E H low mode ⟨n0, x0, e0⟩ false = (u, 3, 0)) (hb : roundS P M E H low mode ⟨!n0, x0, e0⟩ false = (v, 3, 0)) (q7 : bits BinOp.xor IntKind.u64 (u : Int) (v : Int) = (H : Int)) :
    Calls Tryd.prog 6 #[.int .i64 (B : Int), .int .i64 mode, .agg #[.bool n0, .slice A0 l0 c0, .int .i64 e0]] w fun e w' => e = .returned (.bool true) ∧ Below w.heap.size w w' := by
  have gl' := of_decide_eq_false gl
  have HA := Lib.hid ha
  have HB := Lib.hid hb
  have HN : Hid (sgn H true 0 = H) := Lib.hid (by unfold sgn; simp)
  clear ha hb
  go_enter Tryd.func6, Tryd.ntmps6
  go_wp2_with fail
  obtain ⟨V, hV, za, BW, sW⟩ := frame1 w 25 n0 A0 l0 c0 e0
  rw [hV]
  clear hV sW
  replace hT := hT.on BW
  replace hF := hF.on BW
  replace h0 := h0.on BW
  refine (awake4_any hT hF).mono ?_
  rintro en w1 ⟨rfl, b⟩
  replace hT := hT.on b
  replace hF := hF.on b
  replace za := za.on b
  replace h0 := h0.on b
  replace BW := Below.step BW b
  clear b
  go_wp2_with fail
  refine (of_fm hf _ hF).mono ?_
  rintro en w2 ⟨rfl, b⟩
  replace hT := hT.on b
  replace hF := hF.on b
  replace za := za.on b
  replace h0 := h0.on b
  replace BW := Below.step BW b
  clear b
  obtain ⟨zac0, zac1, zac2, zaf0, zaf1, zaf2, zal⟩ := za.cells
  go_upto_region 4 with fail
  clear zac0 zac1 zac2 zaf0 zaf1 zaf2 zal
  obtain ⟨w3, e_w3⟩ : ∃ w', w2.alloc (.cells #[.int .i64 (B : Int), .int .i64 (P : Int), .int .i64 (W : Int)] 28) = w' := ⟨_, rfl⟩
  have b : Below w2.heap.size w2 w3 := e_w3 ▸ below_lit _ _
  have hs_w3 : w3.heap.size = w2.heap.size + 1 := e_w3 ▸ size_lit w2 _ rfl
  have zf : FB w3 w2.heap.size 28 (B : Int) (P : Int) (W : Int) := e_w3 ▸ Box.made_at w2 rfl 28 (notU_int _) (notU_int _) (notU_int _)
  rw [e_w3]
  clear e_w3
  replace hT := hT.on b
  replace hF := hF.on b
  replace za := za.on b
  replace h0 := h0.on b
  replace BW := Below.step BW b
  clear b
  clear hs_w3
  obtain ⟨zfc0, zfc1, zfc2, zff0, zff1, zff2, zfl⟩ := zf.cells
  obtain ⟨zac0, zac1, zac2, zaf0, zaf1, zaf2, zal⟩ := za.cells
  go_wp2_with fail
  refine (len_any h0 (by omega)).mono ?_
  rintro en w' ⟨rfl, rfl⟩
  go_wp2_with fail
  refine (to_as hf h0 (by omega) hT _ false HA.out).mono ?_
  rintro en w4 ⟨rfl, b⟩
  clear zfc0 zfc1 zfc2 zff0 zff1 zff2 zfl zac0 zac1 zac2 zaf0 zaf1 zaf2 zal
  replace hT := hT.on b
  replace hF := hF.on b
  replace za := za.on b
  replace h0 := h0.on b
  replace zf := zf.on b
  replace BW := Below.step BW b
  clear b
  obtain ⟨zfc0, zfc1, zfc2, zff0, zff1, zff2, zfl⟩ := zf.cells
  obtain ⟨zac0, zac1, zac2, zaf0, zaf1, zaf2, zal⟩ := za.cells
  go_wp2_with fail
  refine (to_as hf h0 (by omega) hT _ false HB.out).mono ?_
  rintro en w5 ⟨rfl, b⟩
  clear zfc0 zfc1 zfc2 zff0 zff1 zff2 zfl zac0 zac1 zac2 zaf0 zaf1 zaf2 zal
  replace hT := hT.on b
  replace hF := hF.on b
  replace za := za.on b
  replace h0 := h0.on b
  replace zf := zf.on b
  replace BW := Below.step BW b
  clear b
  obtain ⟨zfc0, zfc1, zfc2, zff0, zff1, zff2, zfl⟩ := zf.cells
  obtain ⟨zac0, zac1, zac2, zaf0, zaf1, zaf2, zal⟩ := za.cells
  go_wp2_with fail
  refine (nought_as hf true H HN.out _).mono ?_
  rintro en w6 ⟨rfl, b⟩
  clear zfc0 zfc1 zfc2 zff0 zff1 zff2 zfl zac0 zac1 zac2 zaf0 zaf1 zaf2 zal
  replace hT := hT.on b
  replace hF := hF.on b
  replace za := za.on b
  replace h0 := h0.on b
  replace zf := zf.on b
  replace BW := Below.step BW b
  clear b
  go_wp2_with fail
  go_ret
  exact ⟨rfl, BW⟩
set_option maxHeartbeats 1000000 in
theorem turns_rest_5 {B P W M E H : Nat} {low : Int} (hf : Fm B P W M E H low) (mode : Int) {n0 : Bool} {A0 : Option Addr} {l0 c0 x0 : Nat} {e0 : Int} {w : World} (h0 : Arg w A0 l0 c0 x0) (hT : Tab w) (hF : Frm w) (m1 : decide (mode < 0) = false) (m2 : decide (5 ≤ mode) = false) (gl : decide (40 < (l0 : Int)) = false) (g1 : decide (e0 < -1200) = false) (g2 : decide (1100 < e0) = false) (gz : ((blen x0 : Int) == 0) = false) (d2 : (mode == 2) = false) (d3 : (mode == 3) = false) {u v : Nat} (ha : roundS P M E H low mode ⟨n0, x0, e0⟩ false = (u, 5, 0)) (hb : roundS P M E H low mode ⟨!n0, x0, e0⟩ false = (v, 5, 0)) (q7 : bits BinOp.xor IntKind.u64 (u : Int) (v : Int) = (H : Int)) :
    Calls Tryd.prog 6 #[.int .i64 (B : Int), .int .i64 mode, .agg #[.bool n0, .slice A0 l0 c0, .int .i64 e0]] w fun e w' => e = .returned (.bool true) ∧ Below w.heap.size w w' := by
  have gl' := of_decide_eq_false gl
  have HA := Lib.hid ha
  have HB := Lib.hid hb
  have HN : Hid (sgn H true 0 = H) := Lib.hid (by unfold sgn; simp)
  clear ha hb
  go_enter Tryd.func6, Tryd.ntmps6
  go_wp2_with fail
  obtain ⟨V, hV, za, BW, sW⟩ := frame1 w 25 n0 A0 l0 c0 e0
  rw [hV]
  clear hV sW
  replace hT := hT.on BW
  replace hF := hF.on BW
  replace h0 := h0.on BW
  refine (awake4_any hT hF).mono ?_
  rintro en w1 ⟨rfl, b⟩
  replace hT := hT.on b
  replace hF := hF.on b
  replace za := za.on b
  replace h0 := h0.on b
  replace BW := Below.step BW b
  clear b
  go_wp2_with fail
  refine (of_fm hf _ hF).mono ?_
  rintro en w2 ⟨rfl, b⟩
  replace hT := hT.on b
  replace hF := hF.on b
  replace za := za.on b
  replace h0 := h0.on b
  replace BW := Below.step BW b
  clear b
  obtain ⟨zac0, zac1, zac2, zaf0, zaf1, zaf2, zal⟩ := za.cells
  go_upto_region 4 with fail
  clear zac0 zac1 zac2 zaf0 zaf1 zaf2 zal
  obtain ⟨w3, e_w3⟩ : ∃ w', w2.alloc (.cells #[.int .i64 (B : Int), .int .i64 (P : Int), .int .i64 (W : Int)] 28) = w' := ⟨_, rfl⟩
  have b : Below w2.heap.size w2 w3 := e_w3 ▸ below_lit _ _
  have hs_w3 : w3.heap.size = w2.heap.size + 1 := e_w3 ▸ size_lit w2 _ rfl
  have zf : FB w3 w2.heap.size 28 (B : Int) (P : Int) (W : Int) := e_w3 ▸ Box.made_at w2 rfl 28 (notU_int _) (notU_int _) (notU_int _)
  rw [e_w3]
  clear e_w3
  replace hT := hT.on b
  replace hF := hF.on b
  replace za := za.on b
  replace h0 := h0.on b
  replace BW := Below.step BW b
  clear b
  clear hs_w3
  obtain ⟨zfc0, zfc1, zfc2, zff0, zff1, zff2, zfl⟩ := zf.cells
  obtain ⟨zac0, zac1, zac2, zaf0, zaf1, zaf2, zal⟩ := za.cells
  go_wp2_with fail
  refine (len_any h0 (by omega)).mono ?_
  rintro en w' ⟨rfl, rfl⟩
  go_wp2_with fail
  refine (to_as hf h0 (by omega) hT _ false HA.out).mono ?_
  rintro en w4 ⟨rfl, b⟩
  clear zfc0 zfc1 zfc2 zff0 zff1 zff2 zfl zac0 zac1 zac2 zaf0 zaf1 zaf2 zal
  replace hT := hT.on b
  replace hF := hF.on b
  replace za := za.on b
  replace h0 := h0.on b
  replace zf := zf.on b
  replace BW := Below.step BW b
  clear b
  obtain ⟨zfc0, zfc1, zfc2, zff0, zff1, zff2, zfl⟩ := zf.cells
  obtain ⟨zac0, zac1, zac2, zaf0, zaf1, zaf2, zal⟩ := za.cells
  go_wp2_with fail
  refine (to_as hf h0 (by omega) hT _ false HB.out).mono ?_
  rintro en w5 ⟨rfl, b⟩
  clear zfc0 zfc1 zfc2 zff0 zff1 zff2 zfl zac0 zac1 zac2 zaf0 zaf1 zaf2 zal
  replace hT := hT.on b
  replace hF := hF.on b
  replace za := za.on b
  replace h0 := h0.on b
  replace zf := zf.on b
  replace BW := Below.step BW b
  clear b
  obtain ⟨zfc0, zfc1, zfc2, zff0, zff1, zff2, zfl⟩ := zf.cells
  obtain ⟨zac0, zac1, zac2, zaf0, zaf1, zaf2, zal⟩ := za.cells
  go_wp2_with fail
  refine (nought_as hf true H HN.out _).mono ?_
  rintro en w6 ⟨rfl, b⟩
  clear zfc0 zfc1 zfc2 zff0 zff1 zff2 zfl zac0 zac1 zac2 zaf0 zaf1 zaf2 zal
  replace hT := hT.on b
  replace hF := hF.on b
  replace za := za.on b
  replace h0 := h0.on b
  replace zf := zf.on b
  replace BW := Below.step BW b
  clear b
  go_wp2_with fail
  go_ret
  exact ⟨rfl, BW⟩
theorem round_lt {B P W M E H : Nat} {low : Int} (hf : Fm B P W M E H low) (mode : Int) (a : D) (neg : Bool) : (roundS P M E H low mode a neg).1 < 18446744073709551616 := by
  obtain ⟨b1, b2, b3, b4, b5, b6, b7, b8, b9, b10, b11, b12, b13, b14, b15⟩ := hf.bd
  have hME := ME_lt hf
  have hs : ∀ (s : Bool) (c : Nat), c ≤ M * E → sgn H s c < 18446744073709551616 := fun s c hc => by
    unfold sgn
    split <;> omega
  unfold roundS
  split
  · show 0 < _; omega
  · split
    · split
      · exact hs _ _ (by omega)
      · split
        · exact hs _ _ (by omega)
        · unfold begS
          split
          · exact hs _ _ (by omega)
          · exact hs _ _ (by omega)
    · show 0 < _; omega
theorem turns_walk (bits mode : Int) {n0 : Bool} {A0 : Option Addr} {l0 c0 x0 : Nat} {e0 : Int} {w : World} (h0 : Arg w A0 l0 c0 x0) (hT : Tab w) (hF : Frm w) :
    Calls Tryd.prog 6 #[.int .i64 bits, .int .i64 mode, .agg #[.bool n0, .slice A0 l0 c0, .int .i64 e0]] w fun e w' => e = .returned (.bool true) ∧ Below w.heap.size w w' := by
  rcases fm_of bits with ⟨B, P, W, M, E, H, low, hf, rfl⟩ | ⟨h1, h2, h3⟩
  · by_cases m1 : mode < 0
    · exact turns_m1 hf mode h0 hT hF (decide_eq_true m1)
    by_cases m2 : 5 ≤ mode
    · exact turns_m2 hf mode h0 hT hF (decide_eq_false m1) (decide_eq_true m2)
    by_cases gl : 40 < (l0 : Int)
    · exact turns_gl hf mode h0 hT hF (decide_eq_false m1) (decide_eq_false m2) (decide_eq_true gl)
    by_cases g1 : e0 < -1200
    · exact turns_g1 hf mode h0 hT hF (decide_eq_false m1) (decide_eq_false m2) (decide_eq_false gl) (decide_eq_true g1)
    by_cases g2 : 1100 < e0
    · exact turns_g2 hf mode h0 hT hF (decide_eq_false m1) (decide_eq_false m2) (decide_eq_false gl) (decide_eq_false g1) (decide_eq_true g2)
    by_cases hz0 : x0 = 0
    · exact turns_gz hf mode h0 hT hF (decide_eq_false m1) (decide_eq_false m2) (decide_eq_false gl) (decide_eq_false g1) (decide_eq_false g2) (by rw [hz0, blen_zero]; rfl)
    have gz : ((blen x0 : Int) == 0) = false := by
      have := (blen_pos hz0).2
      simp
      omega
    have hx := h0.blen
    obtain ⟨k1, k2, k3, k4⟩ := law_may (a := ⟨n0, x0, e0⟩) (by simp only; omega) (by simp only; omega) (by simp only; omega)
    obtain ⟨j1, j2, j3, j4⟩ := law_may (a := ⟨!n0, x0, e0⟩) (by simp only; omega) (by simp only; omega) (by simp only; omega)
    obtain ⟨t1, t2, t3, t4, t5⟩ := round_turns hf (mode := mode) ⟨by omega, by omega⟩ k2 j2 hz0
    have b1 := round_lt hf mode ⟨n0, x0, e0⟩ false
    have b2 := round_lt hf (othM mode) (D.turn ⟨n0, x0, e0⟩) false
    rw [show D.turn ⟨n0, x0, e0⟩ = ⟨!n0, x0, e0⟩ from rfl] at t1 t2 t4 b2
    obtain ⟨⟨u, fu, eu⟩, hu⟩ : ∃ r, roundS P M E H low mode ⟨n0, x0, e0⟩ false = r := ⟨_, rfl⟩
    obtain ⟨⟨v, fv, ev⟩, hv⟩ : ∃ r, roundS P M E H low (othM mode) ⟨!n0, x0, e0⟩ false = r := ⟨_, rfl⟩
    rw [hu] at t1 t2 t3 t5 b1
    rw [hv] at t1 t2 t4 b2
    simp only at t1 t2 t3 t4 t5 b1 b2
    subst t2 t3 t4
    have q7 : bits BinOp.xor IntKind.u64 (u : Int) (v : Int) = (H : Int) := by rw [xor_u64 u v b1 b2, t1]
    have m1' := decide_eq_false m1
    have m2' := decide_eq_false m2
    have gl' := decide_eq_false gl
    have g1' := decide_eq_false g1
    have g2' := decide_eq_false g2
    unfold othM at hv
    by_cases d2 : mode = 2
    · subst d2
      rw [if_pos rfl] at hv
      rcases t5 with rfl | rfl | rfl | rfl
      · exact turns_two_0 hf 2 h0 hT hF m1' m2' gl' g1' g2' gz rfl hu hv q7
      · exact turns_two_1 hf 2 h0 hT hF m1' m2' gl' g1' g2' gz rfl hu hv q7
      · exact turns_two_3 hf 2 h0 hT hF m1' m2' gl' g1' g2' gz rfl hu hv q7
      · exact turns_two_5 hf 2 h0 hT hF m1' m2' gl' g1' g2' gz rfl hu hv q7
    rw [if_neg d2] at hv
    by_cases d3 : mode = 3
    · subst d3
      rw [if_pos rfl] at hv
      rcases t5 with rfl | rfl | rfl | rfl
      · exact turns_three_0 hf 3 h0 hT hF m1' m2' gl' g1' g2' gz rfl hu hv q7
      · exact turns_three_1 hf 3 h0 hT hF m1' m2' gl' g1' g2' gz rfl hu hv q7
      · exact turns_three_3 hf 3 h0 hT hF m1' m2' gl' g1' g2' gz rfl hu hv q7
      · exact turns_three_5 hf 3 h0 hT hF m1' m2' gl' g1' g2' gz rfl hu hv q7
    rw [if_neg d3] at hv
    have d2' : (mode == 2) = false := by simpa using d2
    have d3' : (mode == 3) = false := by simpa using d3
    rcases t5 with rfl | rfl | rfl | rfl
    · exact turns_rest_0 hf mode h0 hT hF m1' m2' gl' g1' g2' gz d2' d3' hu hv q7
    · exact turns_rest_1 hf mode h0 hT hF m1' m2' gl' g1' g2' gz d2' d3' hu hv q7
    · exact turns_rest_3 hf mode h0 hT hF m1' m2' gl' g1' g2' gz d2' d3' hu hv q7
    · exact turns_rest_5 hf mode h0 hT hF m1' m2' gl' g1' g2' gz d2' d3' hu hv q7
  · exact turns_bad bits mode h1 h2 h3 h0 hT hF
end Go.Proofs.YtkjbejdeejpdoaaDoor
