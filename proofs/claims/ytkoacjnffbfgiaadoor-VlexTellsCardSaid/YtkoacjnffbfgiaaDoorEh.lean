
/-
  vlex: Name and Names.
-/
import Derived.Test.YtkoacjnffbfgiaaDoorEe
import Derived.Lib.AppendIntMem
namespace Go.Proofs.YtkoacjnffbfgiaaDoor
open Go.RowKit
set_option linter.unusedVariables false

/-- the library's table of powers of ten lies as it is laid. -/
def Tn (w : World) : Prop := Lib.TabIs Tryd.prog w "internal/strconv.uint64pow10" .u64 Lib.pow10Tab
theorem gPow : Tryd.prog.globalNamed "internal/strconv.uint64pow10" = some 3 := by kernel_rfl
theorem Tn.on {w w' : World} (h : Tn w) (hb : Below w.heap.size w w') : Tn w' := Go.Joins.tab_stays gPow h hb (Nat.le_refl _)
def nmV : Option Nat → Value
  | none => .tuple #[.int .i64 0, .bool false]
  | some n => .tuple #[.int .i64 (n : Int), .bool true]
theorem name_no {l : List UInt8} (h : Lib.hasPrefix l [78] = false) : nameS l = none := by
  cases l with
  | nil => rfl
  | cons c r =>
    by_cases e : c = 78
    · subst e
      exact absurd h (by rw [show Lib.hasPrefix (78 :: r) [78] = true from pre_app [78] r]; decide)
    · unfold nameS
      split
      · rename_i d hd
        cases hd
        exact absurd rfl e
      · rfl
theorem name_yes {l d : List UInt8} (h : Lib.hasPrefix l [78] = true) (hd : Lib.trimPrefix l [78] = d) : nameS l = if (d.all (by8 dgS) && numS d) = true then some (decV d) else none := by
  obtain ⟨r, rfl⟩ := pre_ex h
  have : Lib.trimPrefix ([78] ++ r) [78] = r := by
    unfold Lib.trimPrefix
    rw [if_pos h]
    rfl
  rw [this] at hd
  subst hd
  rfl
set_option maxHeartbeats 1000000 in
theorem name_as (s : ByteArray) (hs : s.size ≤ 900000) (o : Option Nat) (ho : nameS s.data.toList = o) (w : World) :
    Calls Tryd.prog 10 #[.string s] w fun e w' => e = .returned (nmV o) ∧ Below w.heap.size w w' := by
  have HO := Lib.hid ho
  clear ho
  obtain ⟨x1, h1⟩ : ∃ x, Lib.hasPrefix s.data.toList [78] = x := ⟨_, rfl⟩
  have H1 := Lib.hid h1
  have h1 : Lib.hasPrefix s.data.toList ({ data := #[78] } : ByteArray).data.toList = x1 := h1
  obtain ⟨d, hd⟩ : ∃ d : ByteArray, (⟨(Lib.trimPrefix s.data.toList ({ data := #[78] } : ByteArray).data.toList).toArray⟩ : ByteArray) = d := ⟨_, rfl⟩
  have HD : Hid (Lib.trimPrefix s.data.toList [78] = d.data.toList) := Lib.hid (by rw [← hd])
  have hdl : d.size ≤ s.size := by
    rw [← size_list, ← HD.out, ← size_list]
    exact Lib.trimPrefix_le _ _
  go_enter Tryd.func10, Tryd.ntmps10
  go_wp2_with fail
  refine (Tryd.strings_CutPrefix s _ _).mono ?_
  rintro en w1 ⟨rfl, rfl⟩
  rw [hd, h1]
  clear hd h1
  cases x1
  case false =>
    go_wp2_with fail
    refine bodyPost_ret (v := nmV none) (by simp [results, Tryd.results10, go_sem, nmV]) rfl ⟨by rw [← HO.out, name_no H1.out], Below.refl _ _⟩
  obtain ⟨n, hn⟩ : ∃ n, runS dgS d.data.toList = n := ⟨_, rfl⟩
  have HN := Lib.hid hn
  obtain ⟨x2, h2⟩ : ∃ x, decide ((n : Int) < (d.size : Int)) = x := ⟨_, rfl⟩
  have hnd : n ≤ d.size := by rw [← hn, ← size_list]; exact run_le
  have HA : Hid (d.data.toList.all (by8 dgS) = !x2) := Lib.hid (by
    cases x2 with
    | true =>
      have hlt := of_decide_eq_true h2
      cases e : d.data.toList.all (by8 dgS) with
      | false => rfl
      | true =>
        have := run_end e
        rw [hn, size_list] at this
        omega
    | false =>
      have hlt := of_decide_eq_false h2
      have := run_all (f := dgS) (l := d.data.toList)
      rw [hn, List.take_of_length_le (by rw [size_list]; omega)] at this
      rw [this]
      rfl)
  obtain ⟨x3, h3⟩ : ∃ x, numS d.data.toList = x := ⟨_, rfl⟩
  have H3 := Lib.hid h3
  have HE : Hid (nameS s.data.toList = if (!x2 && x3) = true then some (decV d.data.toList) else none) := Lib.hid (by rw [name_yes H1.out HD.out, HA.out, h3])
  clear hn h3
  go_wp2_with fail
  refine (runs_digit d n HN.out (by omega) _).mono ?_
  rintro en w2 ⟨rfl, BW⟩
  cases x2
  case true =>
    have hlt : n < d.size := by have := of_decide_eq_true h2; omega
    go_wp2_with fail
    refine bodyPost_ret (v := nmV none) (by simp [results, Tryd.results10, go_sem, nmV]) rfl ⟨by rw [← HO.out, HE.out]; rfl, BW⟩
  have hge : ¬ n < d.size := by have := of_decide_eq_false h2; omega
  have hge2 : d.size ≤ n := by omega
  go_wp2_with fail
  refine (isNumber_as d x3 H3.out _).mono ?_
  rintro en w3 ⟨rfl, b⟩
  replace BW := Below.step BW b
  clear b
  cases x3
  case false =>
    go_wp2_with fail
    refine bodyPost_ret (v := nmV none) (by simp [results, Tryd.results10, go_sem, nmV]) rfl ⟨by rw [← HO.out, HE.out]; rfl, BW⟩
  have hnum := num_iff.1 H3.out
  rw [size_list] at hnum
  obtain ⟨hpos, h7, _⟩ := hnum
  go_wp2_with fail
  refine (Tryd.strconv_Atoi d (decV d.data.toList : Int) (by omega) (atoi_num HA.out (by rw [size_list]; exact hpos)) _).mono ?_
  rintro en w5 ⟨rfl, t, hw5⟩
  have b : Below w3.heap.size w3 w5 := by rw [hw5]; exact Go.Joins.below_bytesWorld _ _ _ _ (Nat.le_refl _)
  clear hw5
  replace BW := Below.step BW b
  clear b
  go_wp2_with fail
  refine bodyPost_ret (v := nmV (some (decV d.data.toList))) (by simp [results, Tryd.results10, go_sem, nmV]) rfl ⟨by rw [← HO.out, HE.out]; rfl, BW⟩
/-- a number's name. -/
def namesS (i : Int) : List UInt8 := if i < 0 then [] else 78 :: Lib.decDigits i.toNat
theorem ret_str {a b : ByteArray} (h : a = b) : Ending.returned (.string a) = Ending.returned (.string b) := by rw [h]
theorem app_str (a b : ByteArray) : a ++ b = ⟨(a.data.toList ++ b.data.toList).toArray⟩ := by
  apply ByteArray.ext
  simp
theorem names_as (i : Int) (h0 : -9223372036854775808 ≤ i) (h1 : i ≤ 9223372036854775807) (w : World) (ht : Tn w) :
    Calls Tryd.prog 12 #[.int .i64 i] w fun e w' => e = .returned (.string ⟨(namesS i).toArray⟩) ∧ Below w.heap.size w w' := by
  go_enter Tryd.func12, Tryd.ntmps12
  by_cases hi : i < 0
  · go_wp2_with fail
    go_ret
    exact ⟨ret_str (by unfold namesS; rw [if_pos hi]), Below.refl _ _⟩
  · have hi2 : 0 ≤ i := by omega
    go_wp2_with fail
    refine (Tryd.strconv_Itoa i h0 h1 _ ht).mono ?_
    rintro en w1 ⟨rfl, k, os, hw⟩
    have BW : Below w.heap.size w w1 := by rw [hw]; exact Lib.below_grow _ _ (Nat.le_refl _) _ _
    clear hw
    have hl : (Lib.itoa i).length ≤ 19 := by
      unfold Lib.itoa
      rw [if_neg (by omega)]
      exact digits_short 18 _ (by omega)
    have hl2 : ¬ 9223372036854775807 < 1 + (Lib.itoa i).length := by omega
    have hl3 : 1 + (Lib.itoa i).length ≤ 9223372036854775807 := by omega
    go_wp2_with fail
    go_ret
    refine ⟨ret_str ?_, BW⟩
    unfold namesS Lib.itoa
    rw [if_neg (by omega), if_neg (by omega), app_str]
    rfl
end Go.Proofs.YtkoacjnffbfgiaaDoor
