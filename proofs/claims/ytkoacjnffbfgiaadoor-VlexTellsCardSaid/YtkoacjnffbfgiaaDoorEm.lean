
/-
  The reference of layer 24: bytes' kinds, runs, what may stand behind; digits and names.
-/
import Derived.Test.YtkoacjnffbfgiaaDoorEi
namespace Go.Proofs.YtkoacjnffbfgiaaDoor
open Go.RowKit
set_option linter.unusedVariables false

theorem rdigit_as (k : Int) (v : Bool) (hv : dgS k = v) (w : World) :
    Calls Tryd.prog 24 #[.int .u8 k] w fun e w' => e = .returned (.bool v) ∧ Below w.heap.size w w' := by
  have HV := Lib.hid hv
  clear hv
  obtain ⟨x1, h1⟩ : ∃ x, decide (48 ≤ k) = x := ⟨_, rfl⟩
  obtain ⟨x2, h2⟩ : ∃ x, decide (k ≤ 57) = x := ⟨_, rfl⟩
  have HE : Hid (dgS k = (x1 && x2)) := Lib.hid (by unfold dgS; rw [h1, h2])
  go_enter Tryd.func24, Tryd.ntmps24
  cases x1 <;> cases x2
  all_goals
    go_wp2_with fail
    go_ret
    exact ⟨ret_bool (by rw [← HV.out, HE.out]; rfl), Below.refl _ _⟩
theorem letter_as (k : Int) (v : Bool) (hv : bgS k = v) (w : World) :
    Calls Tryd.prog 33 #[.int .u8 k] w fun e w' => e = .returned (.bool v) ∧ Below w.heap.size w w' := by
  have HV := Lib.hid hv
  clear hv
  obtain ⟨x1, h1⟩ : ∃ x, decide (97 ≤ k) = x := ⟨_, rfl⟩
  obtain ⟨x2, h2⟩ : ∃ x, decide (k ≤ 122) = x := ⟨_, rfl⟩
  obtain ⟨x3, h3⟩ : ∃ x, decide (65 ≤ k) = x := ⟨_, rfl⟩
  obtain ⟨x4, h4⟩ : ∃ x, decide (k ≤ 90) = x := ⟨_, rfl⟩
  obtain ⟨x5, h5⟩ : ∃ x, (k == 95) = x := ⟨_, rfl⟩
  have HE : Hid (bgS k = ((x1 && x2) || ((x3 && x4) || x5))) := Lib.hid (by unfold bgS; rw [h1, h2, h3, h4, h5])
  go_enter Tryd.func33, Tryd.ntmps33
  cases x1 <;> cases x2 <;> cases x3 <;> cases x4 <;> cases x5
  all_goals
    go_wp2_with fail
    go_ret
    exact ⟨ret_bool (by rw [← HV.out, HE.out]; rfl), Below.refl _ _⟩
/-- which bytes count counts. -/
def ctS (b : Bool) (c : Int) : Bool := dgS c || (b && bgS c)
theorem ct_true : ctS true = goS := by
  funext c
  unfold ctS goS
  rw [Bool.true_and, Bool.or_comm]
theorem ct_false : ctS false = dgS := by
  funext c
  unfold ctS
  rw [Bool.false_and, Bool.or_false]
theorem drop_get {s : ByteArray} {a j : Nat} (h : a + j < s.size) : (s.data.toList.drop a)[j]? = some s[a + j] := by
  rw [List.getElem?_drop]
  exact at_list h
set_option maxHeartbeats 1000000 in
theorem count_as (s : ByteArray) (a : Nat) (bl : Bool) (ha : a ≤ s.size) (hs : s.size ≤ 900000) (n : Nat) (hn : runS (ctS bl) (s.data.toList.drop a) = n) (w : World) :
    Calls Tryd.prog 34 #[.string s, .int .i64 a, .bool bl] w fun e w' => e = .returned (.int .i64 n) ∧ Below w.heap.size w w' := by
  have HN := Lib.hid hn
  clear hn
  go_enter Tryd.func34, Tryd.ntmps34
  go_wp2_with fail
  go_loopw [7] (fun i wr => ∃ j : Nat, a + j ≤ s.size ∧ i = .int .i64 j ∧ Hid (((s.data.toList.drop a).take j).all (by8 (ctS bl)) = true) ∧ Below w.heap.size w wr) (fun i _ => s.size - (intOf i).toNat)
  case atStart => exact ⟨0, by omega, rfl, Lib.hid rfl, Below.refl _ _⟩
  case round =>
    obtain ⟨j, hj, rfl, HA, BW⟩ := hrel
    obtain ⟨q, hq⟩ : ∃ q, a + j = q := ⟨_, rfl⟩
    have hqI : (a : Int) + (j : Int) = (q : Int) := by omega
    by_cases hlt : q < s.size
    · have HG : Hid ((s.data.toList.drop a)[j]? = some s[q]) := Lib.hid (by
        have := drop_get (s := s) (a := a) (j := j) (by omega)
        rw [this]
        congr 2)
      have hq0 : (0 : Int) ≤ (q : Int) := by omega
      have hq1 : (q : Int) < (s.size : Int) := by omega
      obtain ⟨x1, h1⟩ : ∃ x, dgS (s[q].toNat : Int) = x := ⟨_, rfl⟩
      obtain ⟨x2, h2⟩ : ∃ x, bgS (s[q].toNat : Int) = x := ⟨_, rfl⟩
      have HE : Hid (by8 (ctS bl) s[q] = (x1 || (bl && x2))) := Lib.hid (by unfold by8 ctS; rw [h1, h2])
      have H1 := Lib.hid h1
      have H2 := Lib.hid h2
      have HJ := Lib.hid hj
      have HQ := Lib.hid hq
      clear h1 h2 hj hq
      go_wp2_with fail
      refine (rdigit_as _ x1 H1.out _).mono ?_
      rintro en w1 ⟨rfl, b⟩
      replace BW := Below.step BW b
      clear b
      cases x1
      · cases bl
        · go_wp2_with fail
          go_ret
          exact ⟨ret_nat (by rw [← HN.out, run_stop HA.out HG.out HE.out]), BW⟩
        · go_wp2_with fail
          refine (letter_as _ x2 H2.out _).mono ?_
          rintro en w2 ⟨rfl, b⟩
          replace BW := Below.step BW b
          clear b
          cases x2
          · go_wp2_with fail
            go_ret
            exact ⟨ret_nat (by rw [← HN.out, run_stop HA.out HG.out HE.out]), BW⟩
          · have HT := Lib.hid (takeall HA.out HG.out HE.out)
            go_wp2_with fail
            go_roundw
            case rel => exact ⟨j + 1, by have := HQ.out; omega, by go_num, HT, BW⟩
            case measure => have := HQ.out; simp [intOf]; omega
      · have HT := Lib.hid (takeall HA.out HG.out HE.out)
        cases bl
        all_goals
          go_wp2_with fail
          go_roundw
          case rel => exact ⟨j + 1, by have := HQ.out; omega, by go_num, HT, BW⟩
          case measure => have := HQ.out; simp [intOf]; omega
    · have hge : ¬ (q : Int) < (s.size : Int) := by omega
      have HF : Hid (j = n) := Lib.hid (by
        rw [← HN.out, run_end, List.length_drop, size_list]
        · omega
        · have := HA.out
          rwa [List.take_of_length_le (by rw [List.length_drop, size_list]; omega)] at this)
      go_wp2_with fail
      go_ret
      exact ⟨ret_nat HF.out, BW⟩
set_option maxHeartbeats 1000000 in
theorem ends_as (s : ByteArray) (a : Nat) (hs : s.size ≤ 900000) (v : Bool) (hv : apS (s.data.toList.drop a) = v) (w : World) :
    Calls Tryd.prog 35 #[.string s, .int .i64 a] w fun e w' => e = .returned (.bool v) ∧ Below w.heap.size w w' := by
  have HV := Lib.hid hv
  clear hv
  go_enter Tryd.func35, Tryd.ntmps35
  by_cases hlt : a < s.size
  · have HD := Lib.hid (drop_at hlt)
    have ha0 : (0 : Int) ≤ (a : Int) := by omega
    have ha1 : (a : Int) < (s.size : Int) := by omega
    have ha2 : ¬ (s.size : Int) ≤ (a : Int) := by omega
    obtain ⟨x1, h1⟩ : ∃ x, dgS (s[a].toNat : Int) = x := ⟨_, rfl⟩
    obtain ⟨x2, h2⟩ : ∃ x, bgS (s[a].toNat : Int) = x := ⟨_, rfl⟩
    obtain ⟨x3, h3⟩ : ∃ x, ((s[a].toNat : Int) != 39) = x := ⟨_, rfl⟩
    have HE : Hid (apS (s.data.toList.drop a) = (!(x2 || x1) && x3)) := Lib.hid (by
      rw [HD.out]
      show (!by8 goS s[a] && s[a] != 39) = _
      rw [show by8 goS s[a] = (x2 || x1) by unfold by8 goS; rw [h1, h2], ← h3]
      congr 1
      rw [Bool.eq_iff_iff, bne_iff_ne, bne_iff_ne]
      constructor
      · intro h e
        exact h (UInt8.toNat_inj.1 (by show s[a].toNat = 39; omega))
      · intro h e
        exact h (by rw [e]; rfl))
    have H1 := Lib.hid h1
    have H2 := Lib.hid h2
    clear h1 h2
    go_wp2_with fail
    refine (rdigit_as _ x1 H1.out _).mono ?_
    rintro en w1 ⟨rfl, BW⟩
    cases x1
    · go_wp2_with fail
      refine (letter_as _ x2 H2.out _).mono ?_
      rintro en w2 ⟨rfl, b⟩
      replace BW := Below.step BW b
      clear b
      cases x2 <;> cases x3
      all_goals
        go_wp2_with fail
        go_ret
        exact ⟨ret_bool (by rw [← HV.out, HE.out]; rfl), BW⟩
    · go_wp2_with fail
      go_ret
      exact ⟨ret_bool (by rw [← HV.out, HE.out]; cases x2 <;> rfl), BW⟩
  · have ha2 : (s.size : Int) ≤ (a : Int) := by omega
    have HD : Hid (s.data.toList.drop a = []) := Lib.hid (List.drop_of_length_le (by rw [size_list]; omega))
    go_wp2_with fail
    go_ret
    exact ⟨ret_bool (by rw [← HV.out, HD.out]; rfl), Below.refl _ _⟩
end Go.Proofs.YtkoacjnffbfgiaaDoor
