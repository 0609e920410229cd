
/-
  vlex: bytes' kinds, runs, what may stand behind, numbers' digits.
-/
import Derived.Test.YtkoacjnffbfgiaaDoorMA
import Derived.Test.YtkoacjnffbfgiaaDoorEb
import Derived.Test.YtkoacjnffbfgiaaDoorEs
import Derived.Test.YtkoacjnffbfgiaaDoorChecked
import Derived.Deep.RegionHeld3
import Derived.Deep.DeepCutAuto
import Derived.Laws.AppendOwn
import Derived.Laws.Rows
import Derived.Lib.SmallJoins
import Derived.LoopN
import Derived.WalkKit
import Derived.ProofKit
import Derived.Below
import Derived.Lib.Hide
import Derived.Deep.Draws
namespace Go.Proofs.YtkoacjnffbfgiaaDoor
open Go.RowKit
set_option linter.unusedVariables false

theorem ret_bool {a b : Bool} (h : a = b) : Ending.returned (.bool a) = Ending.returned (.bool b) := by rw [h]
theorem isDigit_as (k : Int) (v : Bool) (hv : dgS k = v) (w : World) :
    Calls Tryd.prog 21 #[.int .u8 k] w fun e w' => e = .returned (.bool v) ∧ Below w.heap.size w w' := by
  have HV := Lib.hid hv
  clear hv
  obtain ⟨x1, h1⟩ : ∃ x, decide (48 ≤ k) = x := ⟨_, rfl⟩
  obtain ⟨x2, h2⟩ : ∃ x, decide (k ≤ 57) = x := ⟨_, rfl⟩
  have HE : Hid (dgS k = (x1 && x2)) := Lib.hid (by unfold dgS; rw [h1, h2])
  go_enter Tryd.func21, Tryd.ntmps21
  cases x1 <;> cases x2
  all_goals
    go_wp2_with fail
    go_ret
    exact ⟨ret_bool (by rw [← HV.out, HE.out]; rfl), Below.refl _ _⟩
theorem begins_as (k : Int) (v : Bool) (hv : bgS k = v) (w : World) :
    Calls Tryd.prog 28 #[.int .u8 k] w fun e w' => e = .returned (.bool v) ∧ Below w.heap.size w w' := by
  have HV := Lib.hid hv
  clear hv
  obtain ⟨x1, h1⟩ : ∃ x, decide (97 ≤ k) = x := ⟨_, rfl⟩
  obtain ⟨x2, h2⟩ : ∃ x, decide (k ≤ 122) = x := ⟨_, rfl⟩
  obtain ⟨x3, h3⟩ : ∃ x, decide (65 ≤ k) = x := ⟨_, rfl⟩
  obtain ⟨x4, h4⟩ : ∃ x, decide (k ≤ 90) = x := ⟨_, rfl⟩
  obtain ⟨x5, h5⟩ : ∃ x, (k == 95) = x := ⟨_, rfl⟩
  have HE : Hid (bgS k = ((x1 && x2) || ((x3 && x4) || x5))) := Lib.hid (by unfold bgS; rw [h1, h2, h3, h4, h5])
  go_enter Tryd.func28, Tryd.ntmps28
  cases x1 <;> cases x2 <;> cases x3 <;> cases x4 <;> cases x5
  all_goals
    go_wp2_with fail
    go_ret
    exact ⟨ret_bool (by rw [← HV.out, HE.out]; rfl), Below.refl _ _⟩
theorem goesOn_as (k : Int) (v : Bool) (hv : goS k = v) (w : World) :
    Calls Tryd.prog 29 #[.int .u8 k] w fun e w' => e = .returned (.bool v) ∧ Below w.heap.size w w' := by
  have HV := Lib.hid hv
  clear hv
  obtain ⟨x1, h1⟩ : ∃ x, bgS k = x := ⟨_, rfl⟩
  obtain ⟨x2, h2⟩ : ∃ x, dgS k = x := ⟨_, rfl⟩
  have HE : Hid (goS k = (x1 || x2)) := Lib.hid (by unfold goS; rw [h1, h2])
  go_enter Tryd.func29, Tryd.ntmps29
  go_wp2_with fail
  refine (begins_as k x1 h1 _).mono ?_
  rintro en w1 ⟨rfl, b1⟩
  cases x1
  · go_wp2_with fail
    refine (isDigit_as k x2 h2 _).mono ?_
    rintro en w2 ⟨rfl, b2⟩
    go_wp2_with fail
    go_ret
    exact ⟨ret_bool (by rw [← HV.out, HE.out]; rfl), Below.step b1 b2⟩
  · go_wp2_with fail
    go_ret
    exact ⟨ret_bool (by rw [← HV.out, HE.out]; rfl), b1⟩
theorem isSpace_as (k : Int) (v : Bool) (hv : spS k = v) (w : World) :
    Calls Tryd.prog 14 #[.int .u8 k] w fun e w' => e = .returned (.bool v) ∧ Below w.heap.size w w' := by
  have HV := Lib.hid hv
  clear hv
  obtain ⟨x1, h1⟩ : ∃ x, (k == 32) = x := ⟨_, rfl⟩
  obtain ⟨x2, h2⟩ : ∃ x, (k == 9) = x := ⟨_, rfl⟩
  obtain ⟨x3, h3⟩ : ∃ x, (k == 10) = x := ⟨_, rfl⟩
  have HE : Hid (spS k = (x1 || (x2 || x3))) := Lib.hid (by unfold spS; rw [h1, h2, h3])
  go_enter Tryd.func14, Tryd.ntmps14
  cases x1 <;> cases x2 <;> cases x3
  all_goals
    go_wp2_with fail
    go_ret
    exact ⟨ret_bool (by rw [← HV.out, HE.out]; rfl), Below.refl _ _⟩
theorem noLine_as (k : Int) (v : Bool) (hv : nlS k = v) (w : World) :
    Calls Tryd.prog 17 #[.int .u8 k] w fun e w' => e = .returned (.bool v) ∧ Below w.heap.size w w' := by
  unfold nlS at hv
  go_enter Tryd.func17, Tryd.ntmps17
  go_wp2_with fail
  go_ret
  exact ⟨rfl, Below.refl _ _⟩
theorem at_list {s : ByteArray} {j : Nat} (h : j < s.size) : s.data.toList[j]? = some s[j] := by
  rw [List.getElem?_eq_getElem (by simpa using h)]
  simp
  rfl
theorem size_list (s : ByteArray) : s.data.toList.length = s.size := by simp
theorem ret_nat {a b : Nat} (h : a = b) : Ending.returned (.int .i64 (a : Int)) = Ending.returned (.int .i64 (b : Int)) := by rw [h]
set_option maxHeartbeats 1000000 in
/-- RUN. -/
theorem runs_digit (s : ByteArray) (n : Nat) (hn : runS dgS s.data.toList = n) (hs : s.size ≤ 1000000) (w : World) :
    Calls Tryd.prog 16 #[.string s, .func (.func 21) #[] #[]] w fun e w' => e = .returned (.int .i64 n) ∧ Below w.heap.size w w' := by
  have HN := Lib.hid hn
  clear hn
  go_enter Tryd.func16, Tryd.ntmps16
  go_wp2_with fail
  go_loopw [8] (fun i wr => ∃ j : Nat, j ≤ s.size ∧ i = .int .i64 j ∧ (s.data.toList.take j).all (by8 dgS) = true ∧ Below w.heap.size w wr) (fun i _ => s.size - (intOf i).toNat)
  case atStart => exact ⟨0, Nat.zero_le _, rfl, rfl, Below.refl _ _⟩
  case round =>
    obtain ⟨j, hj, rfl, ha, BW⟩ := hrel
    have HA := Lib.hid ha
    clear ha
    by_cases hlt : j < s.size
    · have HB := Lib.hid (at_list hlt)
      obtain ⟨x, hx⟩ : ∃ x, dgS (s[j].toNat : Int) = x := ⟨_, rfl⟩
      have HX : Hid (by8 dgS s[j] = x) := Lib.hid hx
      have HC := Lib.hid (isDigit_as _ _ hx)
      clear hx
      have hj0 : (0 : Int) ≤ (j : Int) := by omega
      have hj1 : (j : Int) < (s.size : Int) := by omega
      go_wp2_with fail
      refine (HC.out _).mono ?_
      rintro en w1 ⟨rfl, b⟩
      replace BW := Below.step BW b
      cases x
      · go_wp2_with fail
        go_ret
        exact ⟨ret_nat (by rw [← HN.out, run_stop HA.out HB.out HX.out]), BW⟩
      · go_wp2_with fail
        go_roundw
        case rel => exact ⟨j + 1, by omega, by go_num, takeall HA.out HB.out HX.out, BW⟩
        case measure => simp [intOf]; omega
    · obtain rfl : j = s.size := by omega
      go_wp2_with fail
      go_ret
      refine ⟨ret_nat ?_, BW⟩
      rw [← HN.out, run_end, size_list]
      have := HA.out
      rwa [← size_list, List.take_length] at this
set_option maxHeartbeats 1000000 in
/-- RUN. -/
theorem runs_go (s : ByteArray) (n : Nat) (hn : runS goS s.data.toList = n) (hs : s.size ≤ 1000000) (w : World) :
    Calls Tryd.prog 16 #[.string s, .func (.func 29) #[] #[]] w fun e w' => e = .returned (.int .i64 n) ∧ Below w.heap.size w w' := by
  have HN := Lib.hid hn
  clear hn
  go_enter Tryd.func16, Tryd.ntmps16
  go_wp2_with fail
  go_loopw [8] (fun i wr => ∃ j : Nat, j ≤ s.size ∧ i = .int .i64 j ∧ (s.data.toList.take j).all (by8 goS) = true ∧ Below w.heap.size w wr) (fun i _ => s.size - (intOf i).toNat)
  case atStart => exact ⟨0, Nat.zero_le _, rfl, rfl, Below.refl _ _⟩
  case round =>
    obtain ⟨j, hj, rfl, ha, BW⟩ := hrel
    have HA := Lib.hid ha
    clear ha
    by_cases hlt : j < s.size
    · have HB := Lib.hid (at_list hlt)
      obtain ⟨x, hx⟩ : ∃ x, goS (s[j].toNat : Int) = x := ⟨_, rfl⟩
      have HX : Hid (by8 goS s[j] = x) := Lib.hid hx
      have HC := Lib.hid (goesOn_as _ _ hx)
      clear hx
      have hj0 : (0 : Int) ≤ (j : Int) := by omega
      have hj1 : (j : Int) < (s.size : Int) := by omega
      go_wp2_with fail
      refine (HC.out _).mono ?_
      rintro en w1 ⟨rfl, b⟩
      replace BW := Below.step BW b
      cases x
      · go_wp2_with fail
        go_ret
        exact ⟨ret_nat (by rw [← HN.out, run_stop HA.out HB.out HX.out]), BW⟩
      · go_wp2_with fail
        go_roundw
        case rel => exact ⟨j + 1, by omega, by go_num, takeall HA.out HB.out HX.out, BW⟩
        case measure => simp [intOf]; omega
    · obtain rfl : j = s.size := by omega
      go_wp2_with fail
      go_ret
      refine ⟨ret_nat ?_, BW⟩
      rw [← HN.out, run_end, size_list]
      have := HA.out
      rwa [← size_list, List.take_length] at this
set_option maxHeartbeats 1000000 in
/-- RUN. -/
theorem runs_line (s : ByteArray) (n : Nat) (hn : runS nlS s.data.toList = n) (hs : s.size ≤ 1000000) (w : World) :
    Calls Tryd.prog 16 #[.string s, .func (.func 17) #[] #[]] w fun e w' => e = .returned (.int .i64 n) ∧ Below w.heap.size w w' := by
  have HN := Lib.hid hn
  clear hn
  go_enter Tryd.func16, Tryd.ntmps16
  go_wp2_with fail
  go_loopw [8] (fun i wr => ∃ j : Nat, j ≤ s.size ∧ i = .int .i64 j ∧ (s.data.toList.take j).all (by8 nlS) = true ∧ Below w.heap.size w wr) (fun i _ => s.size - (intOf i).toNat)
  case atStart => exact ⟨0, Nat.zero_le _, rfl, rfl, Below.refl _ _⟩
  case round =>
    obtain ⟨j, hj, rfl, ha, BW⟩ := hrel
    have HA := Lib.hid ha
    clear ha
    by_cases hlt : j < s.size
    · have HB := Lib.hid (at_list hlt)
      obtain ⟨x, hx⟩ : ∃ x, nlS (s[j].toNat : Int) = x := ⟨_, rfl⟩
      have HX : Hid (by8 nlS s[j] = x) := Lib.hid hx
      have HC := Lib.hid (noLine_as _ _ hx)
      clear hx
      have hj0 : (0 : Int) ≤ (j : Int) := by omega
      have hj1 : (j : Int) < (s.size : Int) := by omega
      go_wp2_with fail
      refine (HC.out _).mono ?_
      rintro en w1 ⟨rfl, b⟩
      replace BW := Below.step BW b
      cases x
      · go_wp2_with fail
        go_ret
        exact ⟨ret_nat (by rw [← HN.out, run_stop HA.out HB.out HX.out]), BW⟩
      · go_wp2_with fail
        go_roundw
        case rel => exact ⟨j + 1, by omega, by go_num, takeall HA.out HB.out HX.out, BW⟩
        case measure => simp [intOf]; omega
    · obtain rfl : j = s.size := by omega
      go_wp2_with fail
      go_ret
      refine ⟨ret_nat ?_, BW⟩
      rw [← HN.out, run_end, size_list]
      have := HA.out
      rwa [← size_list, List.take_length] at this
end Go.Proofs.YtkoacjnffbfgiaaDoor
