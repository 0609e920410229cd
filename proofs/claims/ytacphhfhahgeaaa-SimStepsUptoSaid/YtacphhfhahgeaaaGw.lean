
/-
  The reference of layer 6: Name.
-/
import Derived.Test.YtacphhfhahgeaaaGv
namespace Go.Proofs.Ytacphhfhahgeaaa
open Go.RowKit
set_option linter.unusedVariables false
set_option maxRecDepth 4000

def okR (s : ByteArray) (j : Nat) : Bool := letterS (byS s j) || (otherS (byS s j) && decide (0 < j))
theorem okR_all (s : ByteArray) (h : 0 < s.size) : (List.range s.size).all (okR s) = (letterS (byS s 0) && (List.range s.size).all (okS s)) := by
  rw [Bool.eq_iff_iff, Bool.and_eq_true, List.all_eq_true, List.all_eq_true]
  constructor
  · intro h1
    refine ⟨by simpa [okR] using h1 0 (List.mem_range.2 h), fun j hj => ?_⟩
    have := h1 j hj
    unfold okR at this
    unfold okS
    simp only [Bool.or_eq_true, Bool.and_eq_true] at this ⊢
    exact this.imp id And.left
  · rintro ⟨h0, h1⟩ j hj
    have := h1 j hj
    unfold okS at this
    unfold okR
    cases j with
    | zero => simp [h0]
    | succ j => simp only [Bool.or_eq_true, Bool.and_eq_true] at this ⊢; exact this.imp id fun h => ⟨h, by simp⟩
/-- in the reference's order. -/
theorem nameS_is (s : ByteArray) : nameS s = (!resS s && ((List.range s.size).all (okR s) && (decide (0 < s.size) && decide (s.size ≤ 20)))) := by
  unfold nameS
  by_cases h : 0 < s.size
  · rw [okR_all s h]
    cases resS s <;> cases letterS (byS s 0) <;> cases (List.range s.size).all (okS s) <;> simp
  · rw [decide_eq_false h]
    simp
theorem rname_false {s : ByteArray} (h : resS s = true ∨ (List.range s.size).all (okR s) = false) : nameS s = false := by
  rw [nameS_is]
  rcases h with h | h <;> simp [h]
set_option maxHeartbeats 8000000 in
set_option maxRecDepth 10000 in
/-- THE REFERENCE'S NAME. -/
theorem rname_as (s : ByteArray) (v : Bool) (hv : nameS s = v) (hs : s.size ≤ 1000000) (w : World) : Calls Try.prog 132 #[.string s] w fun e w' => e = .returned (.bool v) ∧ Below w.heap.size w w' := by
  have HV := Lib.hid hv
  clear hv
  go_enter Try.func132, Try.ntmps132
  by_cases e0 : (s.toList == [109, 111, 100, 117, 108, 101]) = true
  · have HR : Hid (resS s = true) := Lib.hid (by unfold resS; rw [e0]; simp)
    go_wp2_with fail
    go_ret
    exact ⟨ret_bool (by rw [← HV.out, rname_false (.inl HR.out)]), Below.refl _ _⟩
  replace e0 : (s.toList == [109, 111, 100, 117, 108, 101]) = false := by simpa using e0
  by_cases e1 : (s.toList == [101, 110, 100, 109, 111, 100, 117, 108, 101]) = true
  · have HR : Hid (resS s = true) := Lib.hid (by unfold resS; rw [e1]; simp)
    go_wp2_with fail
    go_ret
    exact ⟨ret_bool (by rw [← HV.out, rname_false (.inl HR.out)]), Below.refl _ _⟩
  replace e1 : (s.toList == [101, 110, 100, 109, 111, 100, 117, 108, 101]) = false := by simpa using e1
  by_cases e2 : (s.toList == [105, 110, 112, 117, 116]) = true
  · have HR : Hid (resS s = true) := Lib.hid (by unfold resS; rw [e2]; simp)
    go_wp2_with fail
    go_ret
    exact ⟨ret_bool (by rw [← HV.out, rname_false (.inl HR.out)]), Below.refl _ _⟩
  replace e2 : (s.toList == [105, 110, 112, 117, 116]) = false := by simpa using e2
  by_cases e3 : (s.toList == [111, 117, 116, 112, 117, 116]) = true
  · have HR : Hid (resS s = true) := Lib.hid (by unfold resS; rw [e3]; simp)
    go_wp2_with fail
    go_ret
    exact ⟨ret_bool (by rw [← HV.out, rname_false (.inl HR.out)]), Below.refl _ _⟩
  replace e3 : (s.toList == [111, 117, 116, 112, 117, 116]) = false := by simpa using e3
  by_cases e4 : (s.toList == [119, 105, 114, 101]) = true
  · have HR : Hid (resS s = true) := Lib.hid (by unfold resS; rw [e4]; simp)
    go_wp2_with fail
    go_ret
    exact ⟨ret_bool (by rw [← HV.out, rname_false (.inl HR.out)]), Below.refl _ _⟩
  replace e4 : (s.toList == [119, 105, 114, 101]) = false := by simpa using e4
  by_cases e5 : (s.toList == [97, 115, 115, 105, 103, 110]) = true
  · have HR : Hid (resS s = true) := Lib.hid (by unfold resS; rw [e5]; simp)
    go_wp2_with fail
    go_ret
    exact ⟨ret_bool (by rw [← HV.out, rname_false (.inl HR.out)]), Below.refl _ _⟩
  replace e5 : (s.toList == [97, 115, 115, 105, 103, 110]) = false := by simpa using e5
  by_cases e6 : (s.toList == [99, 108, 107]) = true
  · have HR : Hid (resS s = true) := Lib.hid (by unfold resS; rw [e6]; simp)
    go_wp2_with fail
    go_ret
    exact ⟨ret_bool (by rw [← HV.out, rname_false (.inl HR.out)]), Below.refl _ _⟩
  replace e6 : (s.toList == [99, 108, 107]) = false := by simpa using e6
  by_cases e7 : (s.toList == [114, 115, 116]) = true
  · have HR : Hid (resS s = true) := Lib.hid (by unfold resS; rw [e7]; simp)
    go_wp2_with fail
    go_ret
    exact ⟨ret_bool (by rw [← HV.out, rname_false (.inl HR.out)]), Below.refl _ _⟩
  replace e7 : (s.toList == [114, 115, 116]) = false := by simpa using e7
  have HR : Hid (resS s = false) := Lib.hid (by unfold resS; rw [e0, e1, e2, e3, e4, e5, e6, e7]; rfl)
  go_wp2_with fail
  clear e0 e1 e2 e3 e4 e5 e6 e7
  go_loopw [3] (fun i wr => ∃ j : Nat, j ≤ s.size ∧ i = .int .i64 j ∧ (List.range j).all (okR s) = true ∧ Below w.heap.size w wr) (fun i _ => s.size - (intOf i).toNat)
  case atStart => exact ⟨0, Nat.zero_le _, rfl, rfl, Below.refl _ _⟩
  case round =>
    obtain ⟨j, hj, rfl, ha, BW⟩ := hrel
    have HA := Lib.hid ha
    clear ha
    by_cases hlt : j < s.size
    · have hjn : (j : Int) < (s.size : Int) := by omega
      have hj0 : (0 : Int) ≤ (j : Int) := by omega
      have HB := Lib.hid (byS_at hlt)
      have hx : (0 : Int) ≤ (s[j].toNat : Int) := by omega
      by_cases r : (s[j].toNat : Int) < 48
      case pos =>
        have f1 : decide (97 ≤ (s[j].toNat : Int)) = false := decide_eq_false (by omega)
        have f2 : decide ((s[j].toNat : Int) ≤ 122) = true := decide_eq_true (by omega)
        have f3 : ((s[j].toNat : Int) == 95) = false := beq_ff (by omega)
        have f4 : decide (48 ≤ (s[j].toNat : Int)) = false := decide_eq_false (by omega)
        have f5 : decide ((s[j].toNat : Int) ≤ 57) = true := decide_eq_true (by omega)
        have HL : Hid (letterS (byS s j) = (true && false && true)) := Lib.hid (by unfold letterS; rw [HB.out, f1, f2]; rfl)
        have HO : Hid (otherS (byS s j) = (false && true || false)) := Lib.hid (by unfold otherS digitS; rw [HB.out, f4, f5, f3])
        have HK : Hid (okR s j = false) := Lib.hid (by unfold okR; rw [HL.out, HO.out]; rfl)
        have HF := Lib.hid (rname_false (.inr (range_not hlt HK.out)))
        go_wp2_with fail
        go_ret
        exact ⟨ret_bool (by rw [← HV.out, HF.out]), BW⟩
      by_cases r : (s[j].toNat : Int) ≤ 57
      case pos =>
        have f1 : decide (97 ≤ (s[j].toNat : Int)) = false := decide_eq_false (by omega)
        have f2 : decide ((s[j].toNat : Int) ≤ 122) = true := decide_eq_true (by omega)
        have f3 : ((s[j].toNat : Int) == 95) = false := beq_ff (by omega)
        have f4 : decide (48 ≤ (s[j].toNat : Int)) = true := decide_eq_true (by omega)
        have f5 : decide ((s[j].toNat : Int) ≤ 57) = true := decide_eq_true (by omega)
        have HL : Hid (letterS (byS s j) = (true && false && true)) := Lib.hid (by unfold letterS; rw [HB.out, f1, f2]; rfl)
        have HO : Hid (otherS (byS s j) = (true && true || false)) := Lib.hid (by unfold otherS digitS; rw [HB.out, f4, f5, f3])
        by_cases z : 0 < j
        · have z1 : decide (0 < j) = true := decide_eq_true z
          have z2 : decide ((0 : Int) < (j : Int)) = true := decide_eq_true (by omega)
          have HK : Hid (okR s j = true) := Lib.hid (by unfold okR; rw [HL.out, HO.out, z1]; rfl)
          have HT := Lib.hid (range_snoc HA.out HK.out)
          go_wp2_with fail
          go_roundw
          case rel => exact ⟨j + 1, by omega, by go_num, HT.out, BW⟩
          case measure => simp [intOf]; omega
        · have z1 : decide (0 < j) = false := decide_eq_false z
          have z2 : decide ((0 : Int) < (j : Int)) = false := decide_eq_false (by omega)
          have HK : Hid (okR s j = false) := Lib.hid (by unfold okR; rw [HL.out, HO.out, z1]; rfl)
          have HF := Lib.hid (rname_false (.inr (range_not hlt HK.out)))
          go_wp2_with fail
          go_ret
          exact ⟨ret_bool (by rw [← HV.out, HF.out]), BW⟩
      by_cases r : (s[j].toNat : Int) < 95
      case pos =>
        have f1 : decide (97 ≤ (s[j].toNat : Int)) = false := decide_eq_false (by omega)
        have f2 : decide ((s[j].toNat : Int) ≤ 122) = true := decide_eq_true (by omega)
        have f3 : ((s[j].toNat : Int) == 95) = false := beq_ff (by omega)
        have f4 : decide (48 ≤ (s[j].toNat : Int)) = true := decide_eq_true (by omega)
        have f5 : decide ((s[j].toNat : Int) ≤ 57) = false := decide_eq_false (by omega)
        have HL : Hid (letterS (byS s j) = (true && false && true)) := Lib.hid (by unfold letterS; rw [HB.out, f1, f2]; rfl)
        have HO : Hid (otherS (byS s j) = (true && false || false)) := Lib.hid (by unfold otherS digitS; rw [HB.out, f4, f5, f3])
        have HK : Hid (okR s j = false) := Lib.hid (by unfold okR; rw [HL.out, HO.out]; rfl)
        have HF := Lib.hid (rname_false (.inr (range_not hlt HK.out)))
        go_wp2_with fail
        go_ret
        exact ⟨ret_bool (by rw [← HV.out, HF.out]), BW⟩
      by_cases r : (s[j].toNat : Int) = 95
      case pos =>
        have f1 : decide (97 ≤ (s[j].toNat : Int)) = false := decide_eq_false (by omega)
        have f2 : decide ((s[j].toNat : Int) ≤ 122) = true := decide_eq_true (by omega)
        have f3 : ((s[j].toNat : Int) == 95) = true := beq_tt (by omega)
        have f4 : decide (48 ≤ (s[j].toNat : Int)) = true := decide_eq_true (by omega)
        have f5 : decide ((s[j].toNat : Int) ≤ 57) = false := decide_eq_false (by omega)
        have HL : Hid (letterS (byS s j) = (true && false && true)) := Lib.hid (by unfold letterS; rw [HB.out, f1, f2]; rfl)
        have HO : Hid (otherS (byS s j) = (true && false || true)) := Lib.hid (by unfold otherS digitS; rw [HB.out, f4, f5, f3])
        by_cases z : 0 < j
        · have z1 : decide (0 < j) = true := decide_eq_true z
          have z2 : decide ((0 : Int) < (j : Int)) = true := decide_eq_true (by omega)
          have HK : Hid (okR s j = true) := Lib.hid (by unfold okR; rw [HL.out, HO.out, z1]; rfl)
          have HT := Lib.hid (range_snoc HA.out HK.out)
          go_wp2_with fail
          go_roundw
          case rel => exact ⟨j + 1, by omega, by go_num, HT.out, BW⟩
          case measure => simp [intOf]; omega
        · have z1 : decide (0 < j) = false := decide_eq_false z
          have z2 : decide ((0 : Int) < (j : Int)) = false := decide_eq_false (by omega)
          have HK : Hid (okR s j = false) := Lib.hid (by unfold okR; rw [HL.out, HO.out, z1]; rfl)
          have HF := Lib.hid (rname_false (.inr (range_not hlt HK.out)))
          go_wp2_with fail
          go_ret
          exact ⟨ret_bool (by rw [← HV.out, HF.out]), BW⟩
      by_cases r : (s[j].toNat : Int) = 96
      case pos =>
        have f1 : decide (97 ≤ (s[j].toNat : Int)) = false := decide_eq_false (by omega)
        have f2 : decide ((s[j].toNat : Int) ≤ 122) = true := decide_eq_true (by omega)
        have f3 : ((s[j].toNat : Int) == 95) = false := beq_ff (by omega)
        have f4 : decide (48 ≤ (s[j].toNat : Int)) = true := decide_eq_true (by omega)
        have f5 : decide ((s[j].toNat : Int) ≤ 57) = false := decide_eq_false (by omega)
        have HL : Hid (letterS (byS s j) = (true && false && true)) := Lib.hid (by unfold letterS; rw [HB.out, f1, f2]; rfl)
        have HO : Hid (otherS (byS s j) = (true && false || false)) := Lib.hid (by unfold otherS digitS; rw [HB.out, f4, f5, f3])
        have HK : Hid (okR s j = false) := Lib.hid (by unfold okR; rw [HL.out, HO.out]; rfl)
        have HF := Lib.hid (rname_false (.inr (range_not hlt HK.out)))
        go_wp2_with fail
        go_ret
        exact ⟨ret_bool (by rw [← HV.out, HF.out]), BW⟩
      by_cases r : (s[j].toNat : Int) ≤ 122
      case pos =>
        have f1 : decide (97 ≤ (s[j].toNat : Int)) = true := decide_eq_true (by omega)
        have f2 : decide ((s[j].toNat : Int) ≤ 122) = true := decide_eq_true (by omega)
        have f3 : ((s[j].toNat : Int) == 95) = false := beq_ff (by omega)
        have f4 : decide (48 ≤ (s[j].toNat : Int)) = true := decide_eq_true (by omega)
        have f5 : decide ((s[j].toNat : Int) ≤ 57) = false := decide_eq_false (by omega)
        have HL : Hid (letterS (byS s j) = (true && true && true)) := Lib.hid (by unfold letterS; rw [HB.out, f1, f2]; rfl)
        have HO : Hid (otherS (byS s j) = (true && false || false)) := Lib.hid (by unfold otherS digitS; rw [HB.out, f4, f5, f3])
        have HK : Hid (okR s j = true) := Lib.hid (by unfold okR; rw [HL.out]; rfl)
        have HT := Lib.hid (range_snoc HA.out HK.out)
        go_wp2_with fail
        go_roundw
        case rel => exact ⟨j + 1, by omega, by go_num, HT.out, BW⟩
        case measure => simp [intOf]; omega
      have f1 : decide (97 ≤ (s[j].toNat : Int)) = true := decide_eq_true (by omega)
      have f2 : decide ((s[j].toNat : Int) ≤ 122) = false := decide_eq_false (by omega)
      have f3 : ((s[j].toNat : Int) == 95) = false := beq_ff (by omega)
      have f4 : decide (48 ≤ (s[j].toNat : Int)) = true := decide_eq_true (by omega)
      have f5 : decide ((s[j].toNat : Int) ≤ 57) = false := decide_eq_false (by omega)
      have HL : Hid (letterS (byS s j) = (true && true && false)) := Lib.hid (by unfold letterS; rw [HB.out, f1, f2]; rfl)
      have HO : Hid (otherS (byS s j) = (true && false || false)) := Lib.hid (by unfold otherS digitS; rw [HB.out, f4, f5, f3])
      have HK : Hid (okR s j = false) := Lib.hid (by unfold okR; rw [HL.out, HO.out]; rfl)
      have HF := Lib.hid (rname_false (.inr (range_not hlt HK.out)))
      go_wp2_with fail
      go_ret
      exact ⟨ret_bool (by rw [← HV.out, HF.out]), BW⟩
    · obtain rfl : j = s.size := by omega
      have HN : Hid (v = (decide (0 < s.size) && decide (s.size ≤ 20))) := Lib.hid (by rw [← HV.out, nameS_is, HR.out, HA.out]; rfl)
      by_cases h1 : 1 ≤ s.size
      · have g1 : decide ((1 : Int) ≤ (s.size : Int)) = true := decide_eq_true (by omega)
        by_cases h2 : s.size ≤ 20
        · have g2 : decide ((s.size : Int) ≤ 20) = true := decide_eq_true (by omega)
          have HE : Hid (v = true) := Lib.hid (by rw [HN.out]; simp; omega)
          go_wp2_with fail
          go_ret
          exact ⟨ret_bool HE.out.symm, BW⟩
        · have g2 : decide ((s.size : Int) ≤ 20) = false := decide_eq_false (by omega)
          have HE : Hid (v = false) := Lib.hid (by rw [HN.out]; simp; omega)
          go_wp2_with fail
          go_ret
          exact ⟨ret_bool HE.out.symm, BW⟩
      · have g1 : decide ((1 : Int) ≤ (s.size : Int)) = false := decide_eq_false (by omega)
        have HE : Hid (v = false) := Lib.hid (by rw [HN.out]; simp; omega)
        go_wp2_with fail
        go_ret
        exact ⟨ret_bool HE.out.symm, BW⟩
end Go.Proofs.Ytacphhfhahgeaaa
