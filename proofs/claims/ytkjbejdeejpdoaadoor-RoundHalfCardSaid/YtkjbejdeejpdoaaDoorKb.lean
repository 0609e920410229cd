
/-
  The walks of round's small functions.
-/
import Derived.Test.YtkjbejdeejpdoaaDoorKa
import Derived.Test.YtkjbejdeejpdoaaDoorRmh
namespace Go.Proofs.YtkjbejdeejpdoaaDoor
open Go.RowKit
set_option linter.unusedVariables false

theorem mode_yes (mode : Int) (w : World) (h1 : decide ((0 : Int) ≤ mode) = true) (h2 : decide (mode < 5) = true) :
    Calls Tryd.prog 52 #[.int .i64 mode] w fun e w' => e = .returned (.bool true) ∧ w = w' := by
  go_enter Tryd.func52, Tryd.ntmps52
  go_wp2_with fail
  go_ret
  exact ⟨rfl, rfl⟩
theorem mode_low (mode : Int) (w : World) (h1 : decide ((0 : Int) ≤ mode) = false) :
    Calls Tryd.prog 52 #[.int .i64 mode] w fun e w' => e = .returned (.bool false) ∧ w = w' := by
  go_enter Tryd.func52, Tryd.ntmps52
  go_wp2_with fail
  go_ret
  exact ⟨rfl, rfl⟩
theorem mode_high (mode : Int) (w : World) (h1 : decide ((0 : Int) ≤ mode) = true) (h2 : decide (mode < 5) = false) :
    Calls Tryd.prog 52 #[.int .i64 mode] w fun e w' => e = .returned (.bool false) ∧ w = w' := by
  go_enter Tryd.func52, Tryd.ntmps52
  go_wp2_with fail
  go_ret
  exact ⟨rfl, rfl⟩
theorem isMode_as (mode : Int) (b : Bool) (hb : (decide (0 ≤ mode) && decide (mode ≤ 4)) = b) (w : World) :
    Calls Tryd.prog 52 #[.int .i64 mode] w fun e w' => e = .returned (.bool b) ∧ w = w' := by
  by_cases h1 : 0 ≤ mode
  · by_cases h2 : mode ≤ 4
    · rw [decide_eq_true h1, decide_eq_true h2] at hb
      subst hb
      exact mode_yes mode w (decide_eq_true h1) (decide_eq_true (by omega))
    · rw [decide_eq_true h1, decide_eq_false h2] at hb
      subst hb
      exact mode_high mode w (decide_eq_true h1) (decide_eq_false (by omega))
  · rw [decide_eq_false h1] at hb
    subst hb
    exact mode_low mode w (decide_eq_false h1)
theorem ga_tie {neg odd : Bool} {half : Int} (h0 : (half == 0) = true) (ho : odd = false) (w : World) :
    Calls Tryd.prog 69 #[.int .i64 0, .bool neg, .int .i64 half, .bool odd] w fun e w' => e = .returned (.bool false) ∧ w = w' := by
  subst ho
  go_enter Tryd.func69, Tryd.ntmps69
  go_wp2_with fail
  go_ret
  exact ⟨rfl, rfl⟩
theorem ga_odd {neg odd : Bool} {half : Int} (h0 : (half == 0) = true) (ho : odd = true) (b : Bool) (h1 : decide ((0 : Int) ≤ half) = b) (w : World) :
    Calls Tryd.prog 69 #[.int .i64 0, .bool neg, .int .i64 half, .bool odd] w fun e w' => e = .returned (.bool b) ∧ w = w' := by
  subst ho
  go_enter Tryd.func69, Tryd.ntmps69
  go_wp2_with fail
  go_ret
  exact ⟨rfl, rfl⟩
theorem ga_near {neg odd : Bool} {half : Int} (h0 : (half == 0) = false) (b : Bool) (h1 : decide ((0 : Int) ≤ half) = b) (w : World) :
    Calls Tryd.prog 69 #[.int .i64 0, .bool neg, .int .i64 half, .bool odd] w fun e w' => e = .returned (.bool b) ∧ w = w' := by
  go_enter Tryd.func69, Tryd.ntmps69
  go_wp2_with fail
  go_ret
  exact ⟨rfl, rfl⟩
theorem ga_away {neg odd : Bool} {half : Int} (b : Bool) (h1 : decide ((0 : Int) ≤ half) = b) (w : World) :
    Calls Tryd.prog 69 #[.int .i64 4, .bool neg, .int .i64 half, .bool odd] w fun e w' => e = .returned (.bool b) ∧ w = w' := by
  go_enter Tryd.func69, Tryd.ntmps69
  go_wp2_with fail
  go_ret
  exact ⟨rfl, rfl⟩
theorem ga_up {neg odd : Bool} {half : Int} (w : World) :
    Calls Tryd.prog 69 #[.int .i64 3, .bool neg, .int .i64 half, .bool odd] w fun e w' => e = .returned (.bool (!neg)) ∧ w = w' := by
  go_enter Tryd.func69, Tryd.ntmps69
  go_wp2_with fail
  go_ret
  exact ⟨rfl, rfl⟩
theorem ga_down {neg odd : Bool} {half : Int} (w : World) :
    Calls Tryd.prog 69 #[.int .i64 2, .bool neg, .int .i64 half, .bool odd] w fun e w' => e = .returned (.bool neg) ∧ w = w' := by
  go_enter Tryd.func69, Tryd.ntmps69
  go_wp2_with fail
  go_ret
  exact ⟨rfl, rfl⟩
theorem ga_other {neg odd : Bool} {half mode : Int} (m0 : (mode == 0) = false) (m4 : (mode == 4) = false) (m3 : (mode == 3) = false) (m2 : (mode == 2) = false) (w : World) :
    Calls Tryd.prog 69 #[.int .i64 mode, .bool neg, .int .i64 half, .bool odd] w fun e w' => e = .returned (.bool false) ∧ w = w' := by
  go_enter Tryd.func69, Tryd.ntmps69
  go_wp2_with fail
  go_ret
  exact ⟨rfl, rfl⟩
theorem goesAway_as (mode : Int) (neg : Bool) (half : Int) (odd : Bool) (hh : half = -1 ∨ half = 0 ∨ half = 1) (b : Bool) (hb : upR mode neg half (!odd) = b) (w : World) :
    Calls Tryd.prog 69 #[.int .i64 mode, .bool neg, .int .i64 half, .bool odd] w fun e w' => e = .returned (.bool b) ∧ w = w' := by
  unfold upR at hb
  by_cases m0 : mode = 0
  · subst m0
    rw [if_pos rfl] at hb
    by_cases h0 : half = 0
    · cases odd
      · rw [h0] at hb
        obtain rfl : b = false := by rw [← hb]; rfl
        exact ga_tie (by simpa using h0) rfl w
      · exact ga_odd (by simpa using h0) rfl b (by rw [h0] at hb ⊢; rw [← hb]; rfl) w
    · exact ga_near (by simpa using h0) b (by rw [decide_eq_false h0, Bool.false_and, Bool.or_false] at hb; rw [← hb]; exact decide_eq_decide.2 (by omega)) w
  · rw [if_neg m0] at hb
    by_cases m2 : mode = 2
    · subst m2
      rw [if_pos rfl] at hb
      subst hb
      exact ga_down w
    · rw [if_neg m2] at hb
      by_cases m3 : mode = 3
      · subst m3
        rw [if_pos rfl] at hb
        subst hb
        exact ga_up w
      · rw [if_neg m3] at hb
        by_cases m4 : mode = 4
        · subst m4
          rw [if_pos rfl] at hb
          exact ga_away b hb w
        · rw [if_neg m4] at hb
          subst hb
          exact ga_other (by simpa using m0) (by simpa using m4) (by simpa using m3) (by simpa using m2) w
theorem bey_inf {B P W : Nat} {mode : Int} {neg : Bool} {v : Nat} {w : World}
    (HI : Hid (∀ V, Calls Tryd.prog 52 #[.int .i64 mode] V fun e w' => e = .returned (.bool true) ∧ V = w'))
    (HG : Hid (∀ V, Calls Tryd.prog 69 #[.int .i64 mode, .bool neg, .int .i64 1, .bool false] V fun e w' => e = .returned (.bool true) ∧ V = w'))
    (HV : Hid (∀ V, Calls Tryd.prog 70 #[.agg #[.int .i64 (B : Int), .int .i64 (P : Int), .int .i64 (W : Int)], .bool neg] V fun e w' => e = .returned (.int .u64 (v : Int)) ∧ Below V.heap.size V w')) :
    Calls Tryd.prog 32 #[.agg #[.int .i64 (B : Int), .int .i64 (P : Int), .int .i64 (W : Int)], .int .i64 mode, .bool neg] w fun en w' => en = .returned (.int .u64 (v : Int)) ∧ Below w.heap.size w w' := by
  go_enter Tryd.func32, Tryd.ntmps32
  go_wp2_with fail
  obtain ⟨V, hV, z0, BW, sW⟩ := fframe1 w 28 (B : Int) (P : Int) (W : Int)
  rw [hV]
  clear hV sW
  refine (HI.out _).mono ?_
  rintro en w' ⟨rfl, rfl⟩
  obtain ⟨z0c0, z0c1, z0c2, z0f0, z0f1, z0f2, z0l⟩ := z0.cells
  go_wp2_with fail
  refine (HG.out _).mono ?_
  rintro en w' ⟨rfl, rfl⟩
  go_wp2_with fail
  refine (HV.out _).mono ?_
  rintro en w1 ⟨rfl, b⟩
  clear z0c0 z0c1 z0c2 z0f0 z0f1 z0f2 z0l
  replace z0 := z0.on b
  replace BW := Below.step BW b
  clear b
  go_wp2_with fail
  refine bodyPost_ret (v := .int .u64 (v : Int)) (by simp [results, Tryd.results32, go_sem]) rfl ?_
  exact ⟨rfl, BW⟩
theorem bey_gr {B P W : Nat} {mode : Int} {neg : Bool} {v : Nat} {w : World}
    (HI : Hid (∀ V, Calls Tryd.prog 52 #[.int .i64 mode] V fun e w' => e = .returned (.bool true) ∧ V = w'))
    (HG : Hid (∀ V, Calls Tryd.prog 69 #[.int .i64 mode, .bool neg, .int .i64 1, .bool false] V fun e w' => e = .returned (.bool false) ∧ V = w'))
    (HV : Hid (∀ V, Calls Tryd.prog 71 #[.agg #[.int .i64 (B : Int), .int .i64 (P : Int), .int .i64 (W : Int)], .bool neg] V fun e w' => e = .returned (.int .u64 (v : Int)) ∧ Below V.heap.size V w')) :
    Calls Tryd.prog 32 #[.agg #[.int .i64 (B : Int), .int .i64 (P : Int), .int .i64 (W : Int)], .int .i64 mode, .bool neg] w fun en w' => en = .returned (.int .u64 (v : Int)) ∧ Below w.heap.size w w' := by
  go_enter Tryd.func32, Tryd.ntmps32
  go_wp2_with fail
  obtain ⟨V, hV, z0, BW, sW⟩ := fframe1 w 28 (B : Int) (P : Int) (W : Int)
  rw [hV]
  clear hV sW
  refine (HI.out _).mono ?_
  rintro en w' ⟨rfl, rfl⟩
  obtain ⟨z0c0, z0c1, z0c2, z0f0, z0f1, z0f2, z0l⟩ := z0.cells
  go_wp2_with fail
  refine (HG.out _).mono ?_
  rintro en w' ⟨rfl, rfl⟩
  go_wp2_with fail
  refine (HV.out _).mono ?_
  rintro en w1 ⟨rfl, b⟩
  clear z0c0 z0c1 z0c2 z0f0 z0f1 z0f2 z0l
  replace z0 := z0.on b
  replace BW := Below.step BW b
  clear b
  go_wp2_with fail
  refine bodyPost_ret (v := .int .u64 (v : Int)) (by simp [results, Tryd.results32, go_sem]) rfl ?_
  exact ⟨rfl, BW⟩
theorem bey_bad {B P W : Nat} {mode : Int} {neg : Bool} {v : Nat} {w : World}
    (HI : Hid (∀ V, Calls Tryd.prog 52 #[.int .i64 mode] V fun e w' => e = .returned (.bool false) ∧ V = w'))
    (HG : Hid (∀ V, Calls Tryd.prog 69 #[.int .i64 0, .bool neg, .int .i64 1, .bool false] V fun e w' => e = .returned (.bool true) ∧ V = w'))
    (HV : Hid (∀ V, Calls Tryd.prog 70 #[.agg #[.int .i64 (B : Int), .int .i64 (P : Int), .int .i64 (W : Int)], .bool neg] V fun e w' => e = .returned (.int .u64 (v : Int)) ∧ Below V.heap.size V w')) :
    Calls Tryd.prog 32 #[.agg #[.int .i64 (B : Int), .int .i64 (P : Int), .int .i64 (W : Int)], .int .i64 mode, .bool neg] w fun en w' => en = .returned (.int .u64 (v : Int)) ∧ Below w.heap.size w w' := by
  go_enter Tryd.func32, Tryd.ntmps32
  go_wp2_with fail
  obtain ⟨V, hV, z0, BW, sW⟩ := fframe1 w 28 (B : Int) (P : Int) (W : Int)
  rw [hV]
  clear hV sW
  refine (HI.out _).mono ?_
  rintro en w' ⟨rfl, rfl⟩
  obtain ⟨z0c0, z0c1, z0c2, z0f0, z0f1, z0f2, z0l⟩ := z0.cells
  go_wp2_with fail
  refine (HG.out _).mono ?_
  rintro en w' ⟨rfl, rfl⟩
  go_wp2_with fail
  refine (HV.out _).mono ?_
  rintro en w1 ⟨rfl, b⟩
  clear z0c0 z0c1 z0c2 z0f0 z0f1 z0f2 z0l
  replace z0 := z0.on b
  replace BW := Below.step BW b
  clear b
  go_wp2_with fail
  refine bodyPost_ret (v := .int .u64 (v : Int)) (by simp [results, Tryd.results32, go_sem]) rfl ?_
  exact ⟨rfl, BW⟩
theorem beyond_as {B P W M E H : Nat} {low : Int} (hf : Fm B P W M E H low) (mode : Int) (neg : Bool) (v : Nat) (hv : begS M E H mode neg = v) (w : World) :
    Calls Tryd.prog 32 #[.agg #[.int .i64 (B : Int), .int .i64 (P : Int), .int .i64 (W : Int)], .int .i64 mode, .bool neg] w fun en w' => en = .returned (.int .u64 (v : Int)) ∧ Below w.heap.size w w' := by
  obtain ⟨b1, b2, b3, b4, b5, b6, b7, b8, b9, b10, b11, b12, b13, b14, b15⟩ := hf.bd
  have hME := (ME_lt hf).1
  by_cases hm : 0 ≤ mode ∧ mode ≤ 4
  · have HI := Lib.hid (fun V => isMode_as mode true (by rw [decide_eq_true hm.1, decide_eq_true hm.2]; rfl) V)
    cases ht : tow0 mode neg
    · refine bey_inf HI (Lib.hid fun V => goesAway_as mode neg 1 false (by omega) true ?_ V) (Lib.hid fun V => infinite_as hf neg v ?_ V)
      · unfold upR
        unfold tow0 at ht
        obtain rfl | rfl | rfl | rfl | rfl : mode = 0 ∨ mode = 1 ∨ mode = 2 ∨ mode = 3 ∨ mode = 4 := by omega
        all_goals (cases neg <;> first | rfl | simp at ht)
      · rw [← hv]
        unfold begS
        rw [ht]
        rfl
    · refine bey_gr HI (Lib.hid fun V => goesAway_as mode neg 1 false (by omega) false ?_ V) (Lib.hid fun V => greatest_as hf neg v ?_ V)
      · unfold upR
        unfold tow0 at ht
        obtain rfl | rfl | rfl | rfl | rfl : mode = 0 ∨ mode = 1 ∨ mode = 2 ∨ mode = 3 ∨ mode = 4 := by omega
        all_goals (cases neg <;> first | rfl | simp at ht)
      · rw [← hv]
        unfold begS
        rw [ht, if_pos rfl]
        unfold sgn
        split <;> omega
  · refine bey_bad (Lib.hid fun V => isMode_as mode false ?_ V) (Lib.hid fun V => goesAway_as 0 neg 1 false (by omega) true rfl V) (Lib.hid fun V => infinite_as hf neg v ?_ V)
    · by_cases h1 : 0 ≤ mode
      · rw [decide_eq_false (p := mode ≤ 4) (by omega), Bool.and_false]
      · rw [decide_eq_false h1, Bool.false_and]
    · have ht : tow0 mode neg = false := by
        unfold tow0
        rw [show (mode == 1) = false by simp; omega, show (mode == 2) = false by simp; omega, show (mode == 3) = false by simp; omega]
        rfl
      rw [← hv]
      unfold begS
      rw [ht]
      rfl
end Go.Proofs.YtkjbejdeejpdoaaDoor
