
/-
  The walk of the law FormatPuts.
-/
import Derived.Test.YtflicmdgijghaaaDoorFw
import Derived.Test.YtflicmdgijghaaaDoorFopen
namespace Go.Proofs.YtflicmdgijghaaaDoor
open Go.RowKit
set_option linter.unusedVariables false

theorem puts_bad (bits : Int) (h1 : bits ≠ 16) (h2 : bits ≠ 32) (h3 : bits ≠ 64) {A : Option Addr} {n c x : Nat} {neg : Bool} {e : Int} {w : World} (h : Arg w A n c x) (we : (Lit.int .i64 e).wf = true) (hT : Tab w) (hF : Frm w) :
    Calls Tryd.prog 4 #[.int .i64 bits, .agg #[.bool neg, .slice A n c, .int .i64 e]] w fun e w' => e = .returned (.bool true) ∧ Below w.heap.size w w' := by
  go_enter Tryd.func4, Tryd.ntmps4
  go_wp2_with fail
  obtain ⟨w1, e_w1⟩ : ∃ w', w.alloc (dob neg A n c e 37) = w' := ⟨_, rfl⟩
  have b : Below w.heap.size w w1 := e_w1 ▸ below_lit _ _
  have hs_w1 : w1.heap.size = w.heap.size + 1 := e_w1 ▸ size_lit w _ rfl
  have za : DB w1 w.heap.size 37 neg A n c e := e_w1 ▸ DB.made w rfl 37 neg A n c e
  rw [e_w1]
  clear e_w1
  replace hT := hT.on b
  replace hF := hF.on b
  replace h := h.on b
  have BW := b
  clear b
  refine (awake3_any hT hF).mono ?_
  rintro en w2 ⟨rfl, b⟩
  replace hT := hT.on b
  replace hF := hF.on b
  replace h := h.on b
  replace za := za.on b
  replace BW := Below.step BW b
  clear b
  obtain ⟨zac0, zac1, zac2, zaf0, zaf1, zaf2, zal⟩ := za.cells
  go_wp2_with fail
  refine (of_bad bits h1 h2 h3 _ hF).mono ?_
  rintro en w3 ⟨rfl, b⟩
  clear zac0 zac1 zac2 zaf0 zaf1 zaf2 zal
  replace hT := hT.on b
  replace hF := hF.on b
  replace h := h.on b
  replace za := za.on b
  replace BW := Below.step BW b
  clear b
  obtain ⟨zac0, zac1, zac2, zaf0, zaf1, zaf2, zal⟩ := za.cells
  go_wp2_with fail
  obtain ⟨wx, hx⟩ : ∃ wx : World, w3.alloc (.cells #[.int .i64 0, .int .i64 0, .int .i64 0] 25) = wx := ⟨_, rfl⟩
  have b : Below w3.heap.size w3 wx := hx ▸ below_lit _ _
  rw [hx]
  clear hx
  replace hT := hT.on b
  replace hF := hF.on b
  replace h := h.on b
  replace za := za.on b
  replace BW := Below.step BW b
  clear b
  refine (rof_bad bits h1 h2 h3 _).mono ?_
  rintro en w4 ⟨rfl, b⟩
  clear zac0 zac1 zac2 zaf0 zaf1 zaf2 zal
  replace hT := hT.on b
  replace hF := hF.on b
  replace h := h.on b
  replace za := za.on b
  replace BW := Below.step BW b
  clear b
  obtain ⟨zac0, zac1, zac2, zaf0, zaf1, zaf2, zal⟩ := za.cells
  go_wp2_with fail
  go_ret
  exact ⟨rfl, Below.step BW (below_lit _ _)⟩
theorem puts_long {B P W M E H : Nat} {low : Int} (hf : Fm B P W M E H low) {A : Option Addr} {n c x : Nat} {neg : Bool} {e : Int} {w : World} (h : Arg w A n c x) (we : (Lit.int .i64 e).wf = true) (hT : Tab w) (hF : Frm w) (hn : 140 < n) :
    Calls Tryd.prog 4 #[.int .i64 (B : Int), .agg #[.bool neg, .slice A n c, .int .i64 e]] w fun e w' => e = .returned (.bool true) ∧ Below w.heap.size w w' := by
  have d1 : decide (140 < n) = true := decide_eq_true hn
  have d1' : decide ((140 : Int) < (n : Int)) = true := decide_eq_true (by omega)
  go_enter Tryd.func4, Tryd.ntmps4
  go_wp2_with fail
  obtain ⟨w1, e_w1⟩ : ∃ w', w.alloc (dob neg A n c e 37) = w' := ⟨_, rfl⟩
  have b : Below w.heap.size w w1 := e_w1 ▸ below_lit _ _
  have hs_w1 : w1.heap.size = w.heap.size + 1 := e_w1 ▸ size_lit w _ rfl
  have za : DB w1 w.heap.size 37 neg A n c e := e_w1 ▸ DB.made w rfl 37 neg A n c e
  rw [e_w1]
  clear e_w1
  replace hT := hT.on b
  replace hF := hF.on b
  replace h := h.on b
  have BW := b
  clear b
  refine (awake3_any hT hF).mono ?_
  rintro en w2 ⟨rfl, b⟩
  replace hT := hT.on b
  replace hF := hF.on b
  replace h := h.on b
  replace za := za.on b
  replace BW := Below.step BW b
  clear b
  obtain ⟨zac0, zac1, zac2, zaf0, zaf1, zaf2, zal⟩ := za.cells
  go_wp2_with fail
  refine (of_fm hf _ hF).mono ?_
  rintro en w3 ⟨rfl, b⟩
  clear zac0 zac1 zac2 zaf0 zaf1 zaf2 zal
  replace hT := hT.on b
  replace hF := hF.on b
  replace h := h.on b
  replace za := za.on b
  replace BW := Below.step BW b
  clear b
  obtain ⟨zac0, zac1, zac2, zaf0, zaf1, zaf2, zal⟩ := za.cells
  go_wp2_with fail
  clear zac0 zac1 zac2 zaf0 zaf1 zaf2 zal
  obtain ⟨w4, e_w4⟩ : ∃ w', w3.alloc (.cells #[.int .i64 (B : Int), .int .i64 (P : Int), .int .i64 (W : Int)] 25) = w' := ⟨_, rfl⟩
  have b : Below w3.heap.size w3 w4 := e_w4 ▸ below_lit _ _
  have hs_w4 : w4.heap.size = w3.heap.size + 1 := e_w4 ▸ size_lit w3 _ rfl
  have zf : FB w4 w3.heap.size 25 (B : Int) (P : Int) (W : Int) := e_w4 ▸ Box.made_at w3 rfl 25 (notU_int _) (notU_int _) (notU_int _)
  rw [e_w4]
  clear e_w4
  replace hT := hT.on b
  replace hF := hF.on b
  replace h := h.on b
  replace za := za.on b
  replace BW := Below.step BW b
  clear b
  refine (rof_fm hf _).mono ?_
  rintro en w5 ⟨rfl, b⟩
  replace hT := hT.on b
  replace hF := hF.on b
  replace h := h.on b
  replace za := za.on b
  replace zf := zf.on b
  replace BW := Below.step BW b
  clear b
  obtain ⟨zac0, zac1, zac2, zaf0, zaf1, zaf2, zal⟩ := za.cells
  obtain ⟨zfc0, zfc1, zfc2, zff0, zff1, zff2, zfl⟩ := zf.cells
  go_wp2_with fail
  clear zac0 zac1 zac2 zaf0 zaf1 zaf2 zal zfc0 zfc1 zfc2 zff0 zff1 zff2 zfl
  obtain ⟨w6, e_w6⟩ : ∃ w', w5.alloc (.cells #[.int .i64 (B : Int), .int .i64 (P : Int), .int .i64 (W : Int)] 29) = w' := ⟨_, rfl⟩
  have b : Below w5.heap.size w5 w6 := e_w6 ▸ below_lit _ _
  have hs_w6 : w6.heap.size = w5.heap.size + 1 := e_w6 ▸ size_lit w5 _ rfl
  have zr : FB w6 w5.heap.size 29 (B : Int) (P : Int) (W : Int) := e_w6 ▸ Box.made_at w5 rfl 29 (notU_int _) (notU_int _) (notU_int _)
  rw [e_w6]
  clear e_w6
  replace hT := hT.on b
  replace hF := hF.on b
  replace h := h.on b
  replace za := za.on b
  replace zf := zf.on b
  replace BW := Below.step BW b
  clear b
  obtain ⟨zac0, zac1, zac2, zaf0, zaf1, zaf2, zal⟩ := za.cells
  obtain ⟨zfc0, zfc1, zfc2, zff0, zff1, zff2, zfl⟩ := zf.cells
  obtain ⟨zrc0, zrc1, zrc2, zrf0, zrf1, zrf2, zrl⟩ := zr.cells
  go_ret
  exact ⟨rfl, BW⟩
set_option maxHeartbeats 1000000 in
theorem puts_walk1 {B P W M E H : Nat} {low : Int} (hf : Fm B P W M E H low) {A : Option Addr} {n c x : Nat} {neg : Bool} {e : Int} {w : World} (h : Arg w A n c x) (we : (Lit.int .i64 e).wf = true) (hT : Tab w) (hF : Frm w) (hn : n ≤ 140) :
    Calls Tryd.prog 4 #[.int .i64 (B : Int), .agg #[.bool neg, .slice A n c, .int .i64 e]] w fun e w' => e = .returned (.bool true) ∧ Below w.heap.size w w' := by
  have d1 : decide (140 < n) = false := decide_eq_false (by omega)
  have d1' : decide ((140 : Int) < (n : Int)) = false := decide_eq_false (by omega)
  obtain ⟨⟨v, q⟩, hp⟩ : ∃ r, putS P M E H low ⟨neg, x, e⟩ = r := ⟨_, rfl⟩
  have HP := Lib.hid hp
  have hbl : blen x ≤ 100000 := by have := h.blen; omega
  clear hp
  go_enter Tryd.func4, Tryd.ntmps4
  go_wp2_with fail
  obtain ⟨w1, e_w1⟩ : ∃ w', w.alloc (dob neg A n c e 37) = w' := ⟨_, rfl⟩
  have b : Below w.heap.size w w1 := e_w1 ▸ below_lit _ _
  have hs_w1 : w1.heap.size = w.heap.size + 1 := e_w1 ▸ size_lit w _ rfl
  have za : DB w1 w.heap.size 37 neg A n c e := e_w1 ▸ DB.made w rfl 37 neg A n c e
  rw [e_w1]
  clear e_w1
  replace hT := hT.on b
  replace hF := hF.on b
  replace h := h.on b
  have BW := b
  clear b
  refine (awake3_any hT hF).mono ?_
  rintro en w2 ⟨rfl, b⟩
  replace hT := hT.on b
  replace hF := hF.on b
  replace h := h.on b
  replace za := za.on b
  replace BW := Below.step BW b
  clear b
  obtain ⟨zac0, zac1, zac2, zaf0, zaf1, zaf2, zal⟩ := za.cells
  go_wp2_with fail
  refine (of_fm hf _ hF).mono ?_
  rintro en w3 ⟨rfl, b⟩
  clear zac0 zac1 zac2 zaf0 zaf1 zaf2 zal
  replace hT := hT.on b
  replace hF := hF.on b
  replace h := h.on b
  replace za := za.on b
  replace BW := Below.step BW b
  clear b
  obtain ⟨zac0, zac1, zac2, zaf0, zaf1, zaf2, zal⟩ := za.cells
  go_wp2_with fail
  clear zac0 zac1 zac2 zaf0 zaf1 zaf2 zal
  obtain ⟨w4, e_w4⟩ : ∃ w', w3.alloc (.cells #[.int .i64 (B : Int), .int .i64 (P : Int), .int .i64 (W : Int)] 25) = w' := ⟨_, rfl⟩
  have b : Below w3.heap.size w3 w4 := e_w4 ▸ below_lit _ _
  have hs_w4 : w4.heap.size = w3.heap.size + 1 := e_w4 ▸ size_lit w3 _ rfl
  have zf : FB w4 w3.heap.size 25 (B : Int) (P : Int) (W : Int) := e_w4 ▸ Box.made_at w3 rfl 25 (notU_int _) (notU_int _) (notU_int _)
  rw [e_w4]
  clear e_w4
  replace hT := hT.on b
  replace hF := hF.on b
  replace h := h.on b
  replace za := za.on b
  replace BW := Below.step BW b
  clear b
  refine (rof_fm hf _).mono ?_
  rintro en w5 ⟨rfl, b⟩
  replace hT := hT.on b
  replace hF := hF.on b
  replace h := h.on b
  replace za := za.on b
  replace zf := zf.on b
  replace BW := Below.step BW b
  clear b
  obtain ⟨zac0, zac1, zac2, zaf0, zaf1, zaf2, zal⟩ := za.cells
  obtain ⟨zfc0, zfc1, zfc2, zff0, zff1, zff2, zfl⟩ := zf.cells
  go_wp2_with fail
  clear zac0 zac1 zac2 zaf0 zaf1 zaf2 zal zfc0 zfc1 zfc2 zff0 zff1 zff2 zfl
  obtain ⟨w6, e_w6⟩ : ∃ w', w5.alloc (.cells #[.int .i64 (B : Int), .int .i64 (P : Int), .int .i64 (W : Int)] 29) = w' := ⟨_, rfl⟩
  have b : Below w5.heap.size w5 w6 := e_w6 ▸ below_lit _ _
  have hs_w6 : w6.heap.size = w5.heap.size + 1 := e_w6 ▸ size_lit w5 _ rfl
  have zr : FB w6 w5.heap.size 29 (B : Int) (P : Int) (W : Int) := e_w6 ▸ Box.made_at w5 rfl 29 (notU_int _) (notU_int _) (notU_int _)
  rw [e_w6]
  clear e_w6
  replace hT := hT.on b
  replace hF := hF.on b
  replace h := h.on b
  replace za := za.on b
  replace zf := zf.on b
  replace BW := Below.step BW b
  clear b
  refine (put_as hf h (by omega) hT HP.out).mono ?_
  rintro en w7 ⟨rfl, b⟩
  replace hT := hT.on b
  replace hF := hF.on b
  replace h := h.on b
  replace za := za.on b
  replace zf := zf.on b
  replace zr := zr.on b
  replace BW := Below.step BW b
  clear b
  obtain ⟨zac0, zac1, zac2, zaf0, zaf1, zaf2, zal⟩ := za.cells
  obtain ⟨zfc0, zfc1, zfc2, zff0, zff1, zff2, zfl⟩ := zf.cells
  obtain ⟨zrc0, zrc1, zrc2, zrf0, zrf1, zrf2, zrl⟩ := zr.cells
  go_wp2_with fail
  clear zac0 zac1 zac2 zaf0 zaf1 zaf2 zal zfc0 zfc1 zfc2 zff0 zff1 zff2 zfl zrc0 zrc1 zrc2 zrf0 zrf1 zrf2 zrl
  replace hT := hT.on ((Below.refl _ _).drew : Below w7.heap.size w7 w7.drew)
  replace hF := hF.on ((Below.refl _ _).drew : Below w7.heap.size w7 w7.drew)
  replace h := h.on ((Below.refl _ _).drew : Below w7.heap.size w7 w7.drew)
  replace za := za.on ((Below.refl _ _).drew : Below w7.heap.size w7 w7.drew)
  replace zf := zf.on ((Below.refl _ _).drew : Below w7.heap.size w7 w7.drew)
  replace zr := zr.on ((Below.refl _ _).drew : Below w7.heap.size w7 w7.drew)
  replace BW := Lib.hid (Below.step BW ((Below.refl _ _).drew : Below w7.heap.size w7 w7.drew))
  go_region_held3 (fun w' => w'.cell? ⟨w5.heap.size, 0, none⟩ = some (.int .i64 (B : Int)) ∧ w'.cell? ⟨w5.heap.size, 1, none⟩ = some (.int .i64 (P : Int)) ∧ w'.cell? ⟨w5.heap.size, 2, none⟩ = some (.int .i64 (W : Int)) ∧ w'.cell? ⟨w.heap.size, 0, none⟩ = some (.bool neg) ∧ w'.cell? ⟨w.heap.size, 1, none⟩ = some (.slice A n c) ∧ w'.cell? ⟨w.heap.size, 2, none⟩ = some (.int .i64 e))
    ((first | exact ⟨zr.cells.1, zr.cells.2.1, zr.cells.2.2.1, za.cells.1, za.cells.2.1, za.cells.2.2.1⟩))
    (first
      | (go_at_call 36
         (with_reducible refine (rOf_any h (by omega)).mono ?_)
         rintro en w8 ⟨V_ra, v_ra, c_ra, rfl, ra, b⟩
         replace hT := hT.on b
         replace hF := hF.on b
         replace h := h.on b
         replace za := za.on b
         replace zf := zf.on b
         replace zr := zr.on b
         replace BW := Lib.hid (Below.step BW.out b)
         have la := ra.le hbl
         clear b)
      | (go_at_call 35
         (with_reducible refine (rput_as hf ra la HP.out).mono ?_)
         rintro en w9 ⟨rfl, b⟩
         replace hT := hT.on b
         replace hF := hF.on b
         replace h := h.on b
         replace za := za.on b
         replace zf := zf.on b
         replace zr := zr.on b
         replace ra := ra.on b
         replace BW := Lib.hid (Below.step BW.out b)
         clear b))
  replace BW := BW.out
  go_wp2_with fail
  go_ret
  exact ⟨rfl, BW⟩
theorem puts_walk (bits : Int) {A : Option Addr} {n c x : Nat} {neg : Bool} {e : Int} {w : World} (h : Arg w A n c x) (we : (Lit.int .i64 e).wf = true) (hT : Tab w) (hF : Frm w) :
    Calls Tryd.prog 4 #[.int .i64 bits, .agg #[.bool neg, .slice A n c, .int .i64 e]] w fun e w' => e = .returned (.bool true) ∧ Below w.heap.size w w' := by
  rcases fm_of bits with ⟨B, P, W, M, E, H, low, hf, rfl⟩ | ⟨h1, h2, h3⟩
  · by_cases hn : 140 < n
    · exact puts_long hf h we hT hF hn
    · exact puts_walk1 hf h we hT hF (by omega)
  · exact puts_bad bits h1 h2 h3 h we hT hF
end Go.Proofs.YtflicmdgijghaaaDoor
