
/-
  The walks of format's Class and Of.
-/
import Derived.Test.YtkjbejdeejpdoaaDoorFb
namespace Go.Proofs.YtkjbejdeejpdoaaDoor
open Go.RowKit
set_option linter.unusedVariables false

/-- what bits are. -/
def clsS (M E b : Nat) : Int :=
  if b / M % (E + 1) = 0 then (if b % M = 0 then 0 else 1) else if b / M % (E + 1) ≠ E then 2 else if b % M = 0 then 3 else if b % M / (M / 2) % 2 = 1 then 4 else 5
set_option maxHeartbeats 1000000 in
theorem class_as {B P W M E H : Nat} {low : Int} (hf : Fm B P W M E H low) (b : Nat) (v : Int) (hb : b < 18446744073709551616) (hv : clsS M E b = v) (w : World) :
    Calls Tryd.prog 48 #[.agg #[.int .i64 (B : Int), .int .i64 (P : Int), .int .i64 (W : Int)], .int .u64 (b : Int)] w fun e w' => e = .returned (.int .i64 v) ∧ Below w.heap.size w w' := by
  obtain ⟨b1, b2, b3, b4, b5, b6, b7, b8, b9, b10, b11, b12, b13, b14, b15⟩ := hf.bd
  unfold clsS at hv
  obtain ⟨r, hr⟩ : ∃ r, b % M = r := ⟨_, rfl⟩
  obtain ⟨x, hx⟩ : ∃ x, b / M % (E + 1) = x := ⟨_, rfl⟩
  obtain ⟨Q, hQ⟩ : ∃ Q, M / 2 = Q := ⟨_, rfl⟩
  have hr2 : r < M := by rw [← hr]; exact Nat.mod_lt _ (by omega)
  have hx2 : x < E + 1 := by rw [← hx]; exact Nat.mod_lt _ (by omega)
  have HR := Lib.hid (fun (V : World) => fraction_as hf b r hb hr V)
  have HX := Lib.hid (fun (V : World) => exponent_as hf b x hb hx V)
  have HO := Lib.hid (fun (V : World) => fones_b W E (by omega) hf.pW (W : Int) rfl V)
  have HQ := Lib.hid (fun (V : World) => quietBit_as hf Q hQ V)
  have hbit := and_bit_ne r (P - 2) Q (by omega) (by omega) (by rw [hf.pQ, hQ])
  rw [hr, hx, hQ] at hv
  clear hr hx hQ hf b1
  by_cases c1 : x = 0
  · rw [if_pos c1] at hv
    subst c1
    clear hbit
    by_cases c2 : r = 0
    · rw [if_pos c2] at hv
      subst c2 hv
      go_enter Tryd.func48, Tryd.ntmps48
      go_wp2_with fail
      obtain ⟨V, hV, z0, BW, sW⟩ := fframe1 w 28 (B : Int) (P : Int) (W : Int)
      rw [hV]
      clear hV
      refine (HR.out _).mono ?_
      rintro en w1 ⟨rfl, b⟩
      replace z0 := z0.on b
      replace BW := Below.step BW b
      clear b
      obtain ⟨z0c0, z0c1, z0c2, z0f0, z0f1, z0f2, z0l⟩ := z0.cells
      go_wp2_with fail
      refine (HX.out _).mono ?_
      rintro en w2 ⟨rfl, b⟩
      clear z0c0 z0c1 z0c2 z0f0 z0f1 z0f2 z0l
      replace z0 := z0.on b
      replace BW := Below.step BW b
      clear b
      obtain ⟨z0c0, z0c1, z0c2, z0f0, z0f1, z0f2, z0l⟩ := z0.cells
      go_wp2_with fail
      go_ret
      exact ⟨rfl, BW⟩
    · rw [if_neg c2] at hv
      subst hv
      have d2 : ((r : Int) == 0) = false := by simp; omega
      go_enter Tryd.func48, Tryd.ntmps48
      go_wp2_with fail
      obtain ⟨V, hV, z0, BW, sW⟩ := fframe1 w 28 (B : Int) (P : Int) (W : Int)
      rw [hV]
      clear hV
      refine (HR.out _).mono ?_
      rintro en w1 ⟨rfl, b⟩
      replace z0 := z0.on b
      replace BW := Below.step BW b
      clear b
      obtain ⟨z0c0, z0c1, z0c2, z0f0, z0f1, z0f2, z0l⟩ := z0.cells
      go_wp2_with fail
      refine (HX.out _).mono ?_
      rintro en w2 ⟨rfl, b⟩
      clear z0c0 z0c1 z0c2 z0f0 z0f1 z0f2 z0l
      replace z0 := z0.on b
      replace BW := Below.step BW b
      clear b
      obtain ⟨z0c0, z0c1, z0c2, z0f0, z0f1, z0f2, z0l⟩ := z0.cells
      go_wp2_with fail
      go_ret
      exact ⟨rfl, BW⟩
  · rw [if_neg c1] at hv
    have d1 : ((x : Int) == 0) = false := by simp; omega
    by_cases c3 : x ≠ E
    · rw [if_pos c3] at hv
      subst hv
      clear hbit
      have d3 : ((x : Int) != (E : Int)) = true := by rw [bne_iff_ne]; omega
      go_enter Tryd.func48, Tryd.ntmps48
      go_wp2_with fail
      obtain ⟨V, hV, z0, BW, sW⟩ := fframe1 w 28 (B : Int) (P : Int) (W : Int)
      rw [hV]
      clear hV
      refine (HR.out _).mono ?_
      rintro en w1 ⟨rfl, b⟩
      replace z0 := z0.on b
      replace BW := Below.step BW b
      clear b
      obtain ⟨z0c0, z0c1, z0c2, z0f0, z0f1, z0f2, z0l⟩ := z0.cells
      go_wp2_with fail
      refine (HX.out _).mono ?_
      rintro en w2 ⟨rfl, b⟩
      clear z0c0 z0c1 z0c2 z0f0 z0f1 z0f2 z0l
      replace z0 := z0.on b
      replace BW := Below.step BW b
      clear b
      obtain ⟨z0c0, z0c1, z0c2, z0f0, z0f1, z0f2, z0l⟩ := z0.cells
      go_wp2_with fail
      refine (HO.out _).mono ?_
      rintro en w3 ⟨rfl, b⟩
      clear z0c0 z0c1 z0c2 z0f0 z0f1 z0f2 z0l
      replace z0 := z0.on b
      replace BW := Below.step BW b
      clear b
      obtain ⟨z0c0, z0c1, z0c2, z0f0, z0f1, z0f2, z0l⟩ := z0.cells
      go_wp2_with fail
      go_ret
      exact ⟨rfl, BW⟩
    · rw [if_neg c3] at hv
      obtain rfl : x = E := by omega
      clear c3
      by_cases c2 : r = 0
      · rw [if_pos c2] at hv
        subst c2 hv
        clear hbit
        go_enter Tryd.func48, Tryd.ntmps48
        go_wp2_with fail
        obtain ⟨V, hV, z0, BW, sW⟩ := fframe1 w 28 (B : Int) (P : Int) (W : Int)
        rw [hV]
        clear hV
        refine (HR.out _).mono ?_
        rintro en w1 ⟨rfl, b⟩
        replace z0 := z0.on b
        replace BW := Below.step BW b
        clear b
        obtain ⟨z0c0, z0c1, z0c2, z0f0, z0f1, z0f2, z0l⟩ := z0.cells
        go_wp2_with fail
        refine (HX.out _).mono ?_
        rintro en w2 ⟨rfl, b⟩
        clear z0c0 z0c1 z0c2 z0f0 z0f1 z0f2 z0l
        replace z0 := z0.on b
        replace BW := Below.step BW b
        clear b
        obtain ⟨z0c0, z0c1, z0c2, z0f0, z0f1, z0f2, z0l⟩ := z0.cells
        go_wp2_with fail
        refine (HO.out _).mono ?_
        rintro en w3 ⟨rfl, b⟩
        clear z0c0 z0c1 z0c2 z0f0 z0f1 z0f2 z0l
        replace z0 := z0.on b
        replace BW := Below.step BW b
        clear b
        obtain ⟨z0c0, z0c1, z0c2, z0f0, z0f1, z0f2, z0l⟩ := z0.cells
        go_wp2_with fail
        go_ret
        exact ⟨rfl, BW⟩
      · rw [if_neg c2] at hv
        have d2 : ((r : Int) == 0) = false := by simp; omega
        by_cases c4 : r / Q % 2 = 1
        · rw [if_pos c4] at hv
          subst hv
          rw [decide_eq_true c4] at hbit
          go_enter Tryd.func48, Tryd.ntmps48
          go_wp2_with fail
          obtain ⟨V, hV, z0, BW, sW⟩ := fframe1 w 28 (B : Int) (P : Int) (W : Int)
          rw [hV]
          clear hV
          refine (HR.out _).mono ?_
          rintro en w1 ⟨rfl, b⟩
          replace z0 := z0.on b
          replace BW := Below.step BW b
          clear b
          obtain ⟨z0c0, z0c1, z0c2, z0f0, z0f1, z0f2, z0l⟩ := z0.cells
          go_wp2_with fail
          refine (HX.out _).mono ?_
          rintro en w2 ⟨rfl, b⟩
          clear z0c0 z0c1 z0c2 z0f0 z0f1 z0f2 z0l
          replace z0 := z0.on b
          replace BW := Below.step BW b
          clear b
          obtain ⟨z0c0, z0c1, z0c2, z0f0, z0f1, z0f2, z0l⟩ := z0.cells
          go_wp2_with fail
          refine (HO.out _).mono ?_
          rintro en w3 ⟨rfl, b⟩
          clear z0c0 z0c1 z0c2 z0f0 z0f1 z0f2 z0l
          replace z0 := z0.on b
          replace BW := Below.step BW b
          clear b
          obtain ⟨z0c0, z0c1, z0c2, z0f0, z0f1, z0f2, z0l⟩ := z0.cells
          go_wp2_with fail
          refine (HQ.out _).mono ?_
          rintro en w4 ⟨rfl, b⟩
          clear z0c0 z0c1 z0c2 z0f0 z0f1 z0f2 z0l
          replace z0 := z0.on b
          replace BW := Below.step BW b
          clear b
          obtain ⟨z0c0, z0c1, z0c2, z0f0, z0f1, z0f2, z0l⟩ := z0.cells
          go_wp2_with fail
          go_ret
          exact ⟨rfl, BW⟩
        · rw [if_neg c4] at hv
          subst hv
          rw [decide_eq_false c4] at hbit
          go_enter Tryd.func48, Tryd.ntmps48
          go_wp2_with fail
          obtain ⟨V, hV, z0, BW, sW⟩ := fframe1 w 28 (B : Int) (P : Int) (W : Int)
          rw [hV]
          clear hV
          refine (HR.out _).mono ?_
          rintro en w1 ⟨rfl, b⟩
          replace z0 := z0.on b
          replace BW := Below.step BW b
          clear b
          obtain ⟨z0c0, z0c1, z0c2, z0f0, z0f1, z0f2, z0l⟩ := z0.cells
          go_wp2_with fail
          refine (HX.out _).mono ?_
          rintro en w2 ⟨rfl, b⟩
          clear z0c0 z0c1 z0c2 z0f0 z0f1 z0f2 z0l
          replace z0 := z0.on b
          replace BW := Below.step BW b
          clear b
          obtain ⟨z0c0, z0c1, z0c2, z0f0, z0f1, z0f2, z0l⟩ := z0.cells
          go_wp2_with fail
          refine (HO.out _).mono ?_
          rintro en w3 ⟨rfl, b⟩
          clear z0c0 z0c1 z0c2 z0f0 z0f1 z0f2 z0l
          replace z0 := z0.on b
          replace BW := Below.step BW b
          clear b
          obtain ⟨z0c0, z0c1, z0c2, z0f0, z0f1, z0f2, z0l⟩ := z0.cells
          go_wp2_with fail
          refine (HQ.out _).mono ?_
          rintro en w4 ⟨rfl, b⟩
          clear z0c0 z0c1 z0c2 z0f0 z0f1 z0f2 z0l
          replace z0 := z0.on b
          replace BW := Below.step BW b
          clear b
          obtain ⟨z0c0, z0c1, z0c2, z0f0, z0f1, z0f2, z0l⟩ := z0.cells
          go_wp2_with fail
          go_ret
          exact ⟨rfl, BW⟩
end Go.Proofs.YtkjbejdeejpdoaaDoor
