
/-
  vlex: the walk of VlexNames.
-/
import Derived.Test.YtkoacjnffbfgiaaDoorEi
namespace Go.Proofs.YtkoacjnffbfgiaaDoor
open Go.RowKit
set_option linter.unusedVariables false

attribute [local go_sem ↓] tok_eql tok_neq
theorem names_nat (n : Nat) : namesS (n : Int) = 78 :: Lib.decDigits n := by
  unfold namesS
  rw [if_neg (by omega)]
  rfl
set_option maxHeartbeats 1000000 in
theorem vlexNames_as (y : Int) (h0 : 0 ≤ y) (h1 : y ≤ 4294967295) (w : World) (ht : Tn w) : Calls Tryd.prog 5 #[.int .u32 y] w fun e w' => e = .returned (.bool true) ∧ Below w.heap.size w w' := by
  obtain ⟨n, hn⟩ : ∃ n : Nat, (y % 10000000 : Int) = (n : Int) := ⟨(y % 10000000).toNat, by omega⟩
  have hn1 : n < 10000000 := by omega
  have hnI : (n : Int) < 10000000 := by omega
  have hn0 : (0 : Int) ≤ (n : Int) := by omega
  have hlen := digits_short 6 n (by simpa using hn1)
  obtain ⟨x, hx⟩ : ∃ x : ByteArray, (⟨(namesS (n : Int)).toArray⟩ : ByteArray) = x := ⟨_, rfl⟩
  have HX : Hid (x.data.toList = 78 :: Lib.decDigits n) := Lib.hid (by rw [← hx, names_nat])
  have hxs : x.size ≤ 900000 := by rw [← size_list, HX.out, List.length_cons]; omega
  obtain ⟨m, hm⟩ : ∃ m : Nat, n + 10000000 = m := ⟨_, rfl⟩
  have hm1 : (n : Int) + 10000000 = (m : Int) := by omega
  have hm2 : ¬ m < 10000000 := by omega
  have hlen2 := digits_short 7 m (by omega)
  obtain ⟨z, hz⟩ : ∃ z : ByteArray, (⟨(namesS (m : Int)).toArray⟩ : ByteArray) = z := ⟨_, rfl⟩
  have HZ : Hid (z.data.toList = 78 :: Lib.decDigits m) := Lib.hid (by rw [← hz, names_nat])
  have hzs : z.size ≤ 900000 := by rw [← size_list, HZ.out, List.length_cons]; omega
  have HX2 := Lib.hid hx
  have HZ2 := Lib.hid hz
  have HM2 := Lib.hid hm2
  have HN1 := Lib.hid hn1
  clear hx hz hlen hlen2 hm hm2 hn1
  have hq1 : (-9223372036854775808 : Int) ≤ (n : Int) := by omega
  have hq2 : (n : Int) ≤ 9223372036854775807 := by omega
  have hq3 : (-9223372036854775808 : Int) ≤ (m : Int) := by omega
  have hq4 : (m : Int) ≤ 9223372036854775807 := by omega
  go_enter Tryd.func5, Tryd.ntmps5
  go_wp2_with fail
  refine (awake_any _ ht).mono ?_
  rintro en w1 ⟨rfl, b⟩
  replace ht := ht.on b
  have BW := b
  clear b
  go_wp2_with fail
  refine (names_as (n : Int) hq1 hq2 _ ht).mono ?_
  rintro en w2 ⟨rfl, b⟩
  replace ht := ht.on b
  replace BW := Below.step BW b
  clear b
  rw [HX2.out]
  go_wp2_with fail
  refine (name_as x hxs (some n) (by rw [HX.out, name_digits, if_pos HN1.out]) _).mono ?_
  rintro en w3 ⟨rfl, b⟩
  replace ht := ht.on b
  replace BW := Below.step BW b
  clear b
  dsimp only [nmV]
  go_wp2_with fail
  refine (names_as (n : Int) hq1 hq2 _ ht).mono ?_
  rintro en w4 ⟨rfl, b⟩
  replace ht := ht.on b
  replace BW := Below.step BW b
  clear b
  rw [HX2.out]
  go_wp2_with fail
  refine (lex_as x hxs (.ok [⟨3, 78 :: Lib.decDigits n, 0, 1⟩]) (by rw [HX.out]; exact lex_name n) _).mono ?_
  rintro en w5 ⟨b, A, k, c, rfl, hT, hsw⟩
  replace ht := ht.on b
  replace BW := Below.step BW b
  clear b
  obtain rfl : 1 = k := hT.1
  go_wp2_with fail
  refine (names_as (m : Int) hq3 hq4 _ ht).mono ?_
  rintro en w6 ⟨rfl, b⟩
  replace ht := ht.on b
  replace hT := hT.on b
  replace BW := Below.step BW b
  clear b
  rw [HZ2.out]
  go_wp2_with fail
  refine (name_as z hzs none (by rw [HZ.out, name_digits, if_neg HM2.out]) _).mono ?_
  rintro en w7 ⟨rfl, b⟩
  replace hT := hT.on b
  replace BW := Below.step BW b
  clear b
  dsimp only [nmV]
  obtain ⟨b0, off, rfl, k0, k1, k2, k3, k4⟩ := hT.2 0 _ rfl
  replace k1 : w7.cell? ⟨b0, off, none⟩ = some (.int .i64 3) := k1
  clear k2 k3 k4 hT hsw
  go_wp2_with fail
  go_ret
  exact ⟨rfl, BW⟩
end Go.Proofs.YtkoacjnffbfgiaaDoor
