
/-
  slices.Equal of places, and of nodes.
-/
import Derived.Test.YtacphhfhahgeaaaGm
namespace Go.Proofs.Ytacphhfhahgeaaa
open Go.RowKit
set_option linter.unusedVariables false
set_option maxRecDepth 4000

instance : BEq Nd := ⟨sameN⟩
theorem same_eq (x y : Nd) : (x == y) = sameN x y := rfl
instance : LawfulBEq Nd where
  eq_of_beq {a b} h := by
    obtain ⟨a1, a2, a3, a4⟩ := a
    obtain ⟨b1, b2, b3, b4⟩ := b
    have : sameN _ _ = true := h
    unfold sameN at this
    simp at this
    obtain ⟨rfl, rfl, rfl, rfl⟩ := this
    rfl
  rfl {a} := sameN_refl a
theorem pref_succ {α : Type} {L M : List α} {j : Nat} {x : α} (h : L.take j = M.take j) (hx : L[j]? = some x) (hy : M[j]? = some x) : L.take (j + 1) = M.take (j + 1) := by
  rw [List.take_add_one, List.take_add_one, h, hx, hy]
theorem pref_no {α : Type} [BEq α] [LawfulBEq α] {L M : List α} {j : Nat} {x y : α} (hx : L[j]? = some x) (hy : M[j]? = some y) (h : ¬ x = y) : (L == M) = false := by
  rw [beq_eq_false_iff_ne]
  rintro rfl
  rw [hx] at hy
  injection hy with hy
  exact h hy
theorem pref_end {α : Type} [BEq α] [LawfulBEq α] {L M : List α} {n : Nat} (hl : L.length = n) (hm : M.length = n) (h : L.take n = M.take n) : (L == M) = true := by
  rw [List.take_of_length_le (by omega), List.take_of_length_le (by omega)] at h
  rw [h]
  exact beq_self_eq_true _
theorem len_no {α : Type} [BEq α] [LawfulBEq α] {L M : List α} (h : ¬ L.length = M.length) : (L == M) = false := by
  rw [beq_eq_false_iff_ne]
  rintro rfl
  exact h rfl
set_option maxHeartbeats 1000000 in
theorem equalI_as {A C : Option Addr} {n c k d : Nat} {L M : List Int} {w : World} (hL : Is w A n L) (hM : Is w C k M) (hn : n ≤ 1000000) (v : Bool) (hv : (L == M) = v) :
    Calls Try.prog 174 #[.slice A n c, .slice C k d] w fun e w' => e = .returned (.bool v) ∧ Below w.heap.size w w' := by
  have HV := Lib.hid hv
  have HL := Lib.hid hL.1
  have HM := Lib.hid hM.1
  clear hv
  go_enter Try.func174, Try.ntmps174
  by_cases e : n = k
  case neg =>
    have e0 : ¬ k = n := fun h => e h.symm
    have e1 : (((n : Nat) : Int) != (k : Int)) = true := by simp; omega
    have HE := Lib.hid (len_no (L := L) (M := M) (by rw [HL.out, HM.out]; exact e))
    go_wp2_with fail
    go_ret
    exact ⟨ret_bool (by rw [← HV.out, HE.out]), Below.refl _ _⟩
  subst e
  have e1 : (((n : Nat) : Int) != (n : Int)) = false := by simp
  go_wp2_with fail
  go_loopw [13] (fun i wr => ∃ j : Nat, j ≤ n ∧ i = .int .i64 j ∧ L.take j = M.take j ∧ Below w.heap.size w wr) (fun i _ => n - (intOf i).toNat)
  case atStart => exact ⟨0, Nat.zero_le _, rfl, rfl, Below.refl _ _⟩
  case round =>
    obtain ⟨j, hj, rfl, hp, BW⟩ := hrel
    have HP := Lib.hid hp
    clear hp
    by_cases hlt : j < n
    · obtain ⟨b0, off, x, eA, HX, cx⟩ := (hL.on BW).at hlt
      obtain ⟨b1, off1, y, eC, HY, cy⟩ := (hM.on BW).at hlt
      subst eA
      have hjn : (j : Int) < (n : Int) := by omega
      have hj0 : (0 : Int) ≤ (j : Int) := by omega
      try subst eC
      by_cases e : x = y
      · subst e
        have HT := Lib.hid (pref_succ HP.out HX.out HY.out)
        go_wp2_with fail
        go_region
        go_wp2_with fail
        go_roundw
        case rel => exact ⟨j + 1, by omega, by go_num, HT.out, BW.drew⟩
        case measure => simp [intOf]; omega
      · have HE := Lib.hid (pref_no HX.out HY.out e)
        have e1 : (x != y) = true := by simp [e]
        go_wp2_with fail
        go_region
        go_wp2_with fail
        go_ret
        exact ⟨ret_bool (by rw [← HV.out, HE.out]), BW.drew⟩
    · obtain rfl : j = n := by omega
      have HE := Lib.hid (pref_end HL.out HM.out HP.out)
      go_wp2_with fail
      go_ret
      exact ⟨ret_bool (by rw [← HV.out, HE.out]), BW⟩
set_option maxHeartbeats 1000000 in
theorem equalN_as {A C : Option Addr} {n c k d : Nat} {L M : List Nd} {w : World} (hL : Ns w A n L) (hM : Ns w C k M) (hn : n ≤ 1000000) (v : Bool) (hv : (L == M) = v) :
    Calls Try.prog 154 #[.slice A n c, .slice C k d] w fun e w' => e = .returned (.bool v) ∧ Below w.heap.size w w' := by
  have HV := Lib.hid hv
  have HL := Lib.hid hL.1
  have HM := Lib.hid hM.1
  clear hv
  go_enter Try.func154, Try.ntmps154
  by_cases e : n = k
  case neg =>
    have e0 : ¬ k = n := fun h => e h.symm
    have e1 : (((n : Nat) : Int) != (k : Int)) = true := by simp; omega
    have HE := Lib.hid (len_no (L := L) (M := M) (by rw [HL.out, HM.out]; exact e))
    go_wp2_with fail
    go_ret
    exact ⟨ret_bool (by rw [← HV.out, HE.out]), Below.refl _ _⟩
  subst e
  have e1 : (((n : Nat) : Int) != (n : Int)) = false := by simp
  go_wp2_with fail
  go_loopw [13] (fun i wr => ∃ j : Nat, j ≤ n ∧ i = .int .i64 j ∧ L.take j = M.take j ∧ Below w.heap.size w wr) (fun i _ => n - (intOf i).toNat)
  case atStart => exact ⟨0, Nat.zero_le _, rfl, rfl, Below.refl _ _⟩
  case round =>
    obtain ⟨j, hj, rfl, hp, BW⟩ := hrel
    have HP := Lib.hid hp
    clear hp
    by_cases hlt : j < n
    · obtain ⟨b0, off, x1, x2, x3, x4, eA, HX, n1, n2, n3, n4⟩ := (hL.on BW).at hlt
      obtain ⟨b1, off1, y1, y2, y3, y4, eC, HY, m1, m2, m3, m4⟩ := (hM.on BW).at hlt
      subst eA
      have hjn : (j : Int) < (n : Int) := by omega
      have hj0 : (0 : Int) ≤ (j : Int) := by omega
      try subst eC
      by_cases e : (⟨x1, x2, x3, x4⟩ : Nd) = ⟨y1, y2, y3, y4⟩
      · injection e with e1 e2 e3 e4
        subst e1 e2 e3 e4
        have HT := Lib.hid (pref_succ HP.out HX.out HY.out)
        go_wp2_with fail
        go_region
        go_wp2_with fail
        go_roundw
        case rel => exact ⟨j + 1, by omega, by go_num, HT.out, BW.drew⟩
        case measure => simp [intOf]; omega
      · have HE := Lib.hid (pref_no HX.out HY.out e)
        by_cases h1 : x1 = y1
        case neg =>
          go_wp2_with fail
          go_region
          go_wp2_with fail
          go_ret
          exact ⟨ret_bool (by rw [← HV.out, HE.out]), BW.drew⟩
        subst h1
        by_cases h2 : x2 = y2
        case neg =>
          go_wp2_with fail
          go_region
          go_wp2_with fail
          go_ret
          exact ⟨ret_bool (by rw [← HV.out, HE.out]), BW.drew⟩
        subst h2
        by_cases h3 : x3 = y3
        case neg =>
          go_wp2_with fail
          go_region
          go_wp2_with fail
          go_ret
          exact ⟨ret_bool (by rw [← HV.out, HE.out]), BW.drew⟩
        subst h3
        by_cases h4 : x4 = y4
        case neg =>
          go_wp2_with fail
          go_region
          go_wp2_with fail
          go_ret
          exact ⟨ret_bool (by rw [← HV.out, HE.out]), BW.drew⟩
        subst h4
        exact absurd rfl e
    · obtain rfl : j = n := by omega
      have HE := Lib.hid (pref_end HL.out HM.out HP.out)
      go_wp2_with fail
      go_ret
      exact ⟨ret_bool (by rw [← HV.out, HE.out]), BW⟩
end Go.Proofs.Ytacphhfhahgeaaa
