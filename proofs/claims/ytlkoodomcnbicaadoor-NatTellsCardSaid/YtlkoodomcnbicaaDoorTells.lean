/-
  The walk of the law NatTells.
-/
import Derived.Test.YtlkoodomcnbicaaDoorAdds
namespace Go.Proofs.YtlkoodomcnbicaaDoor
open Go.RowKit
set_option linter.unusedVariables false

/-- the bit of a place of a number. -/
def bitOf (x : Nat) (i : Int) : Bool := if i < 0 then false else decide (x / 2 ^ i.toNat % 2 = 1)
theorem bitAt_of (bs : List Bool) (i : Int) : bitAt bs i = bitOf (bval bs) i := by
  unfold bitAt bitOf
  split
  · rfl
  · rw [bval_at]
    cases bs.getD i.toNat false <;> simp
theorem rbit_val {A : Option Addr} {n c x : Nat} {w : World} (h : BR w A n c x) (hn : n ≤ 1000000) (i : Int) (b : Bool) (hb : Hid (bitOf x i = b)) :
    Calls Tryd.prog 21 #[.slice A n c, .int .i64 i] w fun e w' => e = .returned (.bool b) ∧ w = w' := by
  obtain ⟨bs, h1, _, _, _, hv⟩ := h
  exact rbit_any h1 (by omega) i b (by show _ = _; rw [bitAt_of, hv]; exact hb.out)
theorem zeros_same {x a b : Nat} (h1 : x = 0 → a = 0) (h2 : x ≠ 0 → Ctz x a) (h3 : x = 0 → b = 0) (h4 : x ≠ 0 → Ctz x b) : a = b := by
  by_cases h : x = 0
  · rw [h1 h, h3 h]
  · exact (h2 h).unique (h4 h)

set_option maxHeartbeats 4000000 in
set_option maxRecDepth 100000 in
theorem tells_neg {A1 : Option Addr} {n1 c1 x n : Nat} {i : Int} {w : World} (h1 : Arg w A1 n1 c1 x) (hn : n < 18446744073709551616) (hT : Tab w) (s1 : n1 ≤ 24) (hi : i < 0) (hov : x < 18446744073709551616) (HB : Hid (bitOf x i = false)) :
    Calls Tryd.prog 4 #[.slice A1 n1 c1, .int .i64 i, .int .u64 (n : Int)] w fun e w' => e = .returned (.bool true) ∧ Below w.heap.size w w' := by
  have d1 : decide (24 < (n1 : Int)) = false := decide_eq_false (by omega)
  have q1 := h1.blen
  obtain ⟨l, el⟩ : ∃ l, blen x = l := ⟨_, rfl⟩
  have l1 : l ≤ 768 := by omega
  have HL := Lib.hid el
  clear el
  go_enter Tryd.func4, Tryd.ntmps4
  go_wp2_with fail
  refine (awake_any hT).mono ?_
  rintro e w1 ⟨rfl, b⟩
  have h1 := h1.on b
  have hT := hT.on b
  have B := b
  clear b
  go_wp2_with fail
  refine (rof_arg h1 (by omega)).mono ?_
  rintro e w2 ⟨A_bx, n_bx, c_bx, rfl, bx, b⟩
  have l_bx : n_bx ≤ 20000 := by rw [bx.size]; omega
  have h1 := h1.on b
  have hT := hT.on b
  have B := Below.step B b
  clear b
  have HBX := Lib.hid bx.size
  go_wp2_with fail
  refine (rbit_val bx (by omega) i false (by exact HB)).mono ?_
  rintro e w3 ⟨rfl, rfl⟩
  go_wp2_with fail
  refine (word_any h1 (by omega) hov).mono ?_
  rintro e w4 ⟨rfl, rfl⟩
  go_wp2_with fail
  refine (rfull_any bx hov).mono ?_
  rintro e w5 ⟨rfl, rfl⟩
  have hl := HBX.out
  have lz : ((l : Int) == (n_bx : Int)) = true := by rw [hl, HL.out]; simp
  clear hl
  go_wp2_with fail
  refine (len_as l h1 (by omega) HL.out).mono ?_
  rintro e w6 ⟨rfl, rfl⟩
  go_wp2_with fail
  refine (bit_neg i hi).mono ?_
  rintro e w7 ⟨rfl, rfl⟩
  go_wp2_with fail
  refine (zeros_any h1 (by omega) hT).mono ?_
  rintro e w8 ⟨z1, rfl, hz0, hz1, hz2, rfl⟩
  have HZ0 := Lib.hid hz0
  have HZ1 := Lib.hid hz1
  clear hz0 hz1
  go_wp2_with fail
  refine (rzeros_any bx (by omega)).mono ?_
  rintro e w9 ⟨z2, rfl, hy0, hy1, hy2, rfl⟩
  obtain rfl : z1 = z2 := zeros_same HZ0.out HZ1.out hy0 hy1
  clear HZ0 HZ1 hy0 hy1
  go_wp2_with fail
  refine (of_any n hn _).mono ?_
  rintro e w10 ⟨A_ro, n_ro, rfl, ro, l_ro, b⟩
  have h1 := h1.on b
  have hT := hT.on b
  have bx := bx.on b
  have B := Below.step B b
  clear b
  go_wp2_with fail
  refine (rword_any n hn _).mono ?_
  rintro e w11 ⟨A_bw, n_bw, c_bw, rfl, bw, b⟩
  have l_bw : n_bw ≤ 20000 := by rw [bw.size]; exact Nat.le_trans ((blen_le n 64).2 (by omega)) (by omega)
  have h1 := h1.on b
  have hT := hT.on b
  have bx := bx.on b
  have ro := ro.on b
  have B := Below.step B b
  clear b
  go_wp2_with fail
  refine (rparts_any bw (by omega)).mono ?_
  rintro e w12 ⟨A_pw_, n_pw_, c_pw_, rfl, pw_, l_pw_, b⟩
  have h1 := h1.on b
  have hT := hT.on b
  have bx := bx.on b
  have ro := ro.on b
  have bw := bw.on b
  have B := Below.step B b
  clear b
  clear bw
  have q9 : blen n ≤ 64 := (blen_le n 64).2 (by omega)
  go_wp2_with fail
  refine (same_res ro pw_ (by omega) (by omega)).mono ?_
  rintro e w13 ⟨rfl, b⟩
  have h1 := h1.on b
  have hT := hT.on b
  have bx := bx.on b
  have ro := ro.on b
  have pw_ := pw_.on b
  have B := Below.step B b
  clear b
  go_wp2_with fail
  go_ret
  exact ⟨rfl, B⟩

set_option maxHeartbeats 4000000 in
set_option maxRecDepth 100000 in
theorem tells_neg_over {A1 : Option Addr} {n1 c1 x n : Nat} {i : Int} {w : World} (h1 : Arg w A1 n1 c1 x) (hn : n < 18446744073709551616) (hT : Tab w) (s1 : n1 ≤ 24) (hi : i < 0) (hov : 18446744073709551616 ≤ x) (HB : Hid (bitOf x i = false)) :
    Calls Tryd.prog 4 #[.slice A1 n1 c1, .int .i64 i, .int .u64 (n : Int)] w fun e w' => e = .returned (.bool true) ∧ Below w.heap.size w w' := by
  have d1 : decide (24 < (n1 : Int)) = false := decide_eq_false (by omega)
  have q1 := h1.blen
  obtain ⟨l, el⟩ : ∃ l, blen x = l := ⟨_, rfl⟩
  have l1 : l ≤ 768 := by omega
  have HL := Lib.hid el
  clear el
  go_enter Tryd.func4, Tryd.ntmps4
  go_wp2_with fail
  refine (awake_any hT).mono ?_
  rintro e w1 ⟨rfl, b⟩
  have h1 := h1.on b
  have hT := hT.on b
  have B := b
  clear b
  go_wp2_with fail
  refine (rof_arg h1 (by omega)).mono ?_
  rintro e w2 ⟨A_bx, n_bx, c_bx, rfl, bx, b⟩
  have l_bx : n_bx ≤ 20000 := by rw [bx.size]; omega
  have h1 := h1.on b
  have hT := hT.on b
  have B := Below.step B b
  clear b
  have HBX := Lib.hid bx.size
  go_wp2_with fail
  refine (rbit_val bx (by omega) i false (by exact HB)).mono ?_
  rintro e w3 ⟨rfl, rfl⟩
  go_wp2_with fail
  refine (word_over h1 (by omega) hov).mono ?_
  rintro e w4 ⟨rfl, rfl⟩
  go_wp2_with fail
  refine (rfull_over bx hov).mono ?_
  rintro e w5 ⟨rfl, rfl⟩
  have hl := HBX.out
  have lz : ((l : Int) == (n_bx : Int)) = true := by rw [hl, HL.out]; simp
  clear hl
  go_wp2_with fail
  refine (len_as l h1 (by omega) HL.out).mono ?_
  rintro e w6 ⟨rfl, rfl⟩
  go_wp2_with fail
  refine (bit_neg i hi).mono ?_
  rintro e w7 ⟨rfl, rfl⟩
  go_wp2_with fail
  refine (zeros_any h1 (by omega) hT).mono ?_
  rintro e w8 ⟨z1, rfl, hz0, hz1, hz2, rfl⟩
  have HZ0 := Lib.hid hz0
  have HZ1 := Lib.hid hz1
  clear hz0 hz1
  go_wp2_with fail
  refine (rzeros_any bx (by omega)).mono ?_
  rintro e w9 ⟨z2, rfl, hy0, hy1, hy2, rfl⟩
  obtain rfl : z1 = z2 := zeros_same HZ0.out HZ1.out hy0 hy1
  clear HZ0 HZ1 hy0 hy1
  go_wp2_with fail
  refine (of_any n hn _).mono ?_
  rintro e w10 ⟨A_ro, n_ro, rfl, ro, l_ro, b⟩
  have h1 := h1.on b
  have hT := hT.on b
  have bx := bx.on b
  have B := Below.step B b
  clear b
  go_wp2_with fail
  refine (rword_any n hn _).mono ?_
  rintro e w11 ⟨A_bw, n_bw, c_bw, rfl, bw, b⟩
  have l_bw : n_bw ≤ 20000 := by rw [bw.size]; exact Nat.le_trans ((blen_le n 64).2 (by omega)) (by omega)
  have h1 := h1.on b
  have hT := hT.on b
  have bx := bx.on b
  have ro := ro.on b
  have B := Below.step B b
  clear b
  go_wp2_with fail
  refine (rparts_any bw (by omega)).mono ?_
  rintro e w12 ⟨A_pw_, n_pw_, c_pw_, rfl, pw_, l_pw_, b⟩
  have h1 := h1.on b
  have hT := hT.on b
  have bx := bx.on b
  have ro := ro.on b
  have bw := bw.on b
  have B := Below.step B b
  clear b
  clear bw
  have q9 : blen n ≤ 64 := (blen_le n 64).2 (by omega)
  go_wp2_with fail
  refine (same_res ro pw_ (by omega) (by omega)).mono ?_
  rintro e w13 ⟨rfl, b⟩
  have h1 := h1.on b
  have hT := hT.on b
  have bx := bx.on b
  have ro := ro.on b
  have pw_ := pw_.on b
  have B := Below.step B b
  clear b
  go_wp2_with fail
  go_ret
  exact ⟨rfl, B⟩

set_option maxHeartbeats 4000000 in
set_option maxRecDepth 100000 in
theorem tells_one {A1 : Option Addr} {n1 c1 x n : Nat} {i : Int} {w : World} (h1 : Arg w A1 n1 c1 x) (hn : n < 18446744073709551616) (hT : Tab w) (s1 : n1 ≤ 24) (hi : 0 ≤ i) (hi2 : i ≤ 9223372036854775807) (hov : x < 18446744073709551616) (HB : Hid (bitOf x i = true)) :
    Calls Tryd.prog 4 #[.slice A1 n1 c1, .int .i64 i, .int .u64 (n : Int)] w fun e w' => e = .returned (.bool true) ∧ Below w.heap.size w w' := by
  have d1 : decide (24 < (n1 : Int)) = false := decide_eq_false (by omega)
  have q1 := h1.blen
  obtain ⟨l, el⟩ : ∃ l, blen x = l := ⟨_, rfl⟩
  have l1 : l ≤ 768 := by omega
  have HL := Lib.hid el
  clear el
  have HBV : Hid (x / 2 ^ i.toNat % 2 = 1) := by
    have := HB.out
    unfold bitOf at this
    rw [if_neg (by omega)] at this
    show _ = _
    have h2 := Nat.mod_two_eq_zero_or_one (x / 2 ^ i.toNat)
    simp at this
    omega
  go_enter Tryd.func4, Tryd.ntmps4
  go_wp2_with fail
  refine (awake_any hT).mono ?_
  rintro e w1 ⟨rfl, b⟩
  have h1 := h1.on b
  have hT := hT.on b
  have B := b
  clear b
  go_wp2_with fail
  refine (rof_arg h1 (by omega)).mono ?_
  rintro e w2 ⟨A_bx, n_bx, c_bx, rfl, bx, b⟩
  have l_bx : n_bx ≤ 20000 := by rw [bx.size]; omega
  have h1 := h1.on b
  have hT := hT.on b
  have B := Below.step B b
  clear b
  have HBX := Lib.hid bx.size
  go_wp2_with fail
  refine (rbit_val bx (by omega) i true (by exact HB)).mono ?_
  rintro e w3 ⟨rfl, rfl⟩
  go_wp2_with fail
  refine (word_any h1 (by omega) hov).mono ?_
  rintro e w4 ⟨rfl, rfl⟩
  go_wp2_with fail
  refine (rfull_any bx hov).mono ?_
  rintro e w5 ⟨rfl, rfl⟩
  have hl := HBX.out
  have lz : ((l : Int) == (n_bx : Int)) = true := by rw [hl, HL.out]; simp
  clear hl
  go_wp2_with fail
  refine (len_as l h1 (by omega) HL.out).mono ?_
  rintro e w6 ⟨rfl, rfl⟩
  go_wp2_with fail
  refine (bit_as 1 h1 i (by omega) (by omega) HBV.out).mono ?_
  rintro e w7 ⟨rfl, rfl⟩
  go_wp2_with fail
  refine (zeros_any h1 (by omega) hT).mono ?_
  rintro e w8 ⟨z1, rfl, hz0, hz1, hz2, rfl⟩
  have HZ0 := Lib.hid hz0
  have HZ1 := Lib.hid hz1
  clear hz0 hz1
  go_wp2_with fail
  refine (rzeros_any bx (by omega)).mono ?_
  rintro e w9 ⟨z2, rfl, hy0, hy1, hy2, rfl⟩
  obtain rfl : z1 = z2 := zeros_same HZ0.out HZ1.out hy0 hy1
  clear HZ0 HZ1 hy0 hy1
  go_wp2_with fail
  refine (of_any n hn _).mono ?_
  rintro e w10 ⟨A_ro, n_ro, rfl, ro, l_ro, b⟩
  have h1 := h1.on b
  have hT := hT.on b
  have bx := bx.on b
  have B := Below.step B b
  clear b
  go_wp2_with fail
  refine (rword_any n hn _).mono ?_
  rintro e w11 ⟨A_bw, n_bw, c_bw, rfl, bw, b⟩
  have l_bw : n_bw ≤ 20000 := by rw [bw.size]; exact Nat.le_trans ((blen_le n 64).2 (by omega)) (by omega)
  have h1 := h1.on b
  have hT := hT.on b
  have bx := bx.on b
  have ro := ro.on b
  have B := Below.step B b
  clear b
  go_wp2_with fail
  refine (rparts_any bw (by omega)).mono ?_
  rintro e w12 ⟨A_pw_, n_pw_, c_pw_, rfl, pw_, l_pw_, b⟩
  have h1 := h1.on b
  have hT := hT.on b
  have bx := bx.on b
  have ro := ro.on b
  have bw := bw.on b
  have B := Below.step B b
  clear b
  clear bw
  have q9 : blen n ≤ 64 := (blen_le n 64).2 (by omega)
  go_wp2_with fail
  refine (same_res ro pw_ (by omega) (by omega)).mono ?_
  rintro e w13 ⟨rfl, b⟩
  have h1 := h1.on b
  have hT := hT.on b
  have bx := bx.on b
  have ro := ro.on b
  have pw_ := pw_.on b
  have B := Below.step B b
  clear b
  go_wp2_with fail
  go_ret
  exact ⟨rfl, B⟩

set_option maxHeartbeats 4000000 in
set_option maxRecDepth 100000 in
theorem tells_one_over {A1 : Option Addr} {n1 c1 x n : Nat} {i : Int} {w : World} (h1 : Arg w A1 n1 c1 x) (hn : n < 18446744073709551616) (hT : Tab w) (s1 : n1 ≤ 24) (hi : 0 ≤ i) (hi2 : i ≤ 9223372036854775807) (hov : 18446744073709551616 ≤ x) (HB : Hid (bitOf x i = true)) :
    Calls Tryd.prog 4 #[.slice A1 n1 c1, .int .i64 i, .int .u64 (n : Int)] w fun e w' => e = .returned (.bool true) ∧ Below w.heap.size w w' := by
  have d1 : decide (24 < (n1 : Int)) = false := decide_eq_false (by omega)
  have q1 := h1.blen
  obtain ⟨l, el⟩ : ∃ l, blen x = l := ⟨_, rfl⟩
  have l1 : l ≤ 768 := by omega
  have HL := Lib.hid el
  clear el
  have HBV : Hid (x / 2 ^ i.toNat % 2 = 1) := by
    have := HB.out
    unfold bitOf at this
    rw [if_neg (by omega)] at this
    show _ = _
    have h2 := Nat.mod_two_eq_zero_or_one (x / 2 ^ i.toNat)
    simp at this
    omega
  go_enter Tryd.func4, Tryd.ntmps4
  go_wp2_with fail
  refine (awake_any hT).mono ?_
  rintro e w1 ⟨rfl, b⟩
  have h1 := h1.on b
  have hT := hT.on b
  have B := b
  clear b
  go_wp2_with fail
  refine (rof_arg h1 (by omega)).mono ?_
  rintro e w2 ⟨A_bx, n_bx, c_bx, rfl, bx, b⟩
  have l_bx : n_bx ≤ 20000 := by rw [bx.size]; omega
  have h1 := h1.on b
  have hT := hT.on b
  have B := Below.step B b
  clear b
  have HBX := Lib.hid bx.size
  go_wp2_with fail
  refine (rbit_val bx (by omega) i true (by exact HB)).mono ?_
  rintro e w3 ⟨rfl, rfl⟩
  go_wp2_with fail
  refine (word_over h1 (by omega) hov).mono ?_
  rintro e w4 ⟨rfl, rfl⟩
  go_wp2_with fail
  refine (rfull_over bx hov).mono ?_
  rintro e w5 ⟨rfl, rfl⟩
  have hl := HBX.out
  have lz : ((l : Int) == (n_bx : Int)) = true := by rw [hl, HL.out]; simp
  clear hl
  go_wp2_with fail
  refine (len_as l h1 (by omega) HL.out).mono ?_
  rintro e w6 ⟨rfl, rfl⟩
  go_wp2_with fail
  refine (bit_as 1 h1 i (by omega) (by omega) HBV.out).mono ?_
  rintro e w7 ⟨rfl, rfl⟩
  go_wp2_with fail
  refine (zeros_any h1 (by omega) hT).mono ?_
  rintro e w8 ⟨z1, rfl, hz0, hz1, hz2, rfl⟩
  have HZ0 := Lib.hid hz0
  have HZ1 := Lib.hid hz1
  clear hz0 hz1
  go_wp2_with fail
  refine (rzeros_any bx (by omega)).mono ?_
  rintro e w9 ⟨z2, rfl, hy0, hy1, hy2, rfl⟩
  obtain rfl : z1 = z2 := zeros_same HZ0.out HZ1.out hy0 hy1
  clear HZ0 HZ1 hy0 hy1
  go_wp2_with fail
  refine (of_any n hn _).mono ?_
  rintro e w10 ⟨A_ro, n_ro, rfl, ro, l_ro, b⟩
  have h1 := h1.on b
  have hT := hT.on b
  have bx := bx.on b
  have B := Below.step B b
  clear b
  go_wp2_with fail
  refine (rword_any n hn _).mono ?_
  rintro e w11 ⟨A_bw, n_bw, c_bw, rfl, bw, b⟩
  have l_bw : n_bw ≤ 20000 := by rw [bw.size]; exact Nat.le_trans ((blen_le n 64).2 (by omega)) (by omega)
  have h1 := h1.on b
  have hT := hT.on b
  have bx := bx.on b
  have ro := ro.on b
  have B := Below.step B b
  clear b
  go_wp2_with fail
  refine (rparts_any bw (by omega)).mono ?_
  rintro e w12 ⟨A_pw_, n_pw_, c_pw_, rfl, pw_, l_pw_, b⟩
  have h1 := h1.on b
  have hT := hT.on b
  have bx := bx.on b
  have ro := ro.on b
  have bw := bw.on b
  have B := Below.step B b
  clear b
  clear bw
  have q9 : blen n ≤ 64 := (blen_le n 64).2 (by omega)
  go_wp2_with fail
  refine (same_res ro pw_ (by omega) (by omega)).mono ?_
  rintro e w13 ⟨rfl, b⟩
  have h1 := h1.on b
  have hT := hT.on b
  have bx := bx.on b
  have ro := ro.on b
  have pw_ := pw_.on b
  have B := Below.step B b
  clear b
  go_wp2_with fail
  go_ret
  exact ⟨rfl, B⟩

set_option maxHeartbeats 4000000 in
set_option maxRecDepth 100000 in
theorem tells_nil {A1 : Option Addr} {n1 c1 x n : Nat} {i : Int} {w : World} (h1 : Arg w A1 n1 c1 x) (hn : n < 18446744073709551616) (hT : Tab w) (s1 : n1 ≤ 24) (hi : 0 ≤ i) (hi2 : i ≤ 9223372036854775807) (hov : x < 18446744073709551616) (HB : Hid (bitOf x i = false)) :
    Calls Tryd.prog 4 #[.slice A1 n1 c1, .int .i64 i, .int .u64 (n : Int)] w fun e w' => e = .returned (.bool true) ∧ Below w.heap.size w w' := by
  have d1 : decide (24 < (n1 : Int)) = false := decide_eq_false (by omega)
  have q1 := h1.blen
  obtain ⟨l, el⟩ : ∃ l, blen x = l := ⟨_, rfl⟩
  have l1 : l ≤ 768 := by omega
  have HL := Lib.hid el
  clear el
  have HBV : Hid (x / 2 ^ i.toNat % 2 = 0) := by
    have := HB.out
    unfold bitOf at this
    rw [if_neg (by omega)] at this
    show _ = _
    have h2 := Nat.mod_two_eq_zero_or_one (x / 2 ^ i.toNat)
    simp at this
    omega
  go_enter Tryd.func4, Tryd.ntmps4
  go_wp2_with fail
  refine (awake_any hT).mono ?_
  rintro e w1 ⟨rfl, b⟩
  have h1 := h1.on b
  have hT := hT.on b
  have B := b
  clear b
  go_wp2_with fail
  refine (rof_arg h1 (by omega)).mono ?_
  rintro e w2 ⟨A_bx, n_bx, c_bx, rfl, bx, b⟩
  have l_bx : n_bx ≤ 20000 := by rw [bx.size]; omega
  have h1 := h1.on b
  have hT := hT.on b
  have B := Below.step B b
  clear b
  have HBX := Lib.hid bx.size
  go_wp2_with fail
  refine (rbit_val bx (by omega) i false (by exact HB)).mono ?_
  rintro e w3 ⟨rfl, rfl⟩
  go_wp2_with fail
  refine (word_any h1 (by omega) hov).mono ?_
  rintro e w4 ⟨rfl, rfl⟩
  go_wp2_with fail
  refine (rfull_any bx hov).mono ?_
  rintro e w5 ⟨rfl, rfl⟩
  have hl := HBX.out
  have lz : ((l : Int) == (n_bx : Int)) = true := by rw [hl, HL.out]; simp
  clear hl
  go_wp2_with fail
  refine (len_as l h1 (by omega) HL.out).mono ?_
  rintro e w6 ⟨rfl, rfl⟩
  go_wp2_with fail
  refine (bit_as 0 h1 i (by omega) (by omega) HBV.out).mono ?_
  rintro e w7 ⟨rfl, rfl⟩
  go_wp2_with fail
  refine (zeros_any h1 (by omega) hT).mono ?_
  rintro e w8 ⟨z1, rfl, hz0, hz1, hz2, rfl⟩
  have HZ0 := Lib.hid hz0
  have HZ1 := Lib.hid hz1
  clear hz0 hz1
  go_wp2_with fail
  refine (rzeros_any bx (by omega)).mono ?_
  rintro e w9 ⟨z2, rfl, hy0, hy1, hy2, rfl⟩
  obtain rfl : z1 = z2 := zeros_same HZ0.out HZ1.out hy0 hy1
  clear HZ0 HZ1 hy0 hy1
  go_wp2_with fail
  refine (of_any n hn _).mono ?_
  rintro e w10 ⟨A_ro, n_ro, rfl, ro, l_ro, b⟩
  have h1 := h1.on b
  have hT := hT.on b
  have bx := bx.on b
  have B := Below.step B b
  clear b
  go_wp2_with fail
  refine (rword_any n hn _).mono ?_
  rintro e w11 ⟨A_bw, n_bw, c_bw, rfl, bw, b⟩
  have l_bw : n_bw ≤ 20000 := by rw [bw.size]; exact Nat.le_trans ((blen_le n 64).2 (by omega)) (by omega)
  have h1 := h1.on b
  have hT := hT.on b
  have bx := bx.on b
  have ro := ro.on b
  have B := Below.step B b
  clear b
  go_wp2_with fail
  refine (rparts_any bw (by omega)).mono ?_
  rintro e w12 ⟨A_pw_, n_pw_, c_pw_, rfl, pw_, l_pw_, b⟩
  have h1 := h1.on b
  have hT := hT.on b
  have bx := bx.on b
  have ro := ro.on b
  have bw := bw.on b
  have B := Below.step B b
  clear b
  clear bw
  have q9 : blen n ≤ 64 := (blen_le n 64).2 (by omega)
  go_wp2_with fail
  refine (same_res ro pw_ (by omega) (by omega)).mono ?_
  rintro e w13 ⟨rfl, b⟩
  have h1 := h1.on b
  have hT := hT.on b
  have bx := bx.on b
  have ro := ro.on b
  have pw_ := pw_.on b
  have B := Below.step B b
  clear b
  go_wp2_with fail
  go_ret
  exact ⟨rfl, B⟩

set_option maxHeartbeats 4000000 in
set_option maxRecDepth 100000 in
theorem tells_nil_over {A1 : Option Addr} {n1 c1 x n : Nat} {i : Int} {w : World} (h1 : Arg w A1 n1 c1 x) (hn : n < 18446744073709551616) (hT : Tab w) (s1 : n1 ≤ 24) (hi : 0 ≤ i) (hi2 : i ≤ 9223372036854775807) (hov : 18446744073709551616 ≤ x) (HB : Hid (bitOf x i = false)) :
    Calls Tryd.prog 4 #[.slice A1 n1 c1, .int .i64 i, .int .u64 (n : Int)] w fun e w' => e = .returned (.bool true) ∧ Below w.heap.size w w' := by
  have d1 : decide (24 < (n1 : Int)) = false := decide_eq_false (by omega)
  have q1 := h1.blen
  obtain ⟨l, el⟩ : ∃ l, blen x = l := ⟨_, rfl⟩
  have l1 : l ≤ 768 := by omega
  have HL := Lib.hid el
  clear el
  have HBV : Hid (x / 2 ^ i.toNat % 2 = 0) := by
    have := HB.out
    unfold bitOf at this
    rw [if_neg (by omega)] at this
    show _ = _
    have h2 := Nat.mod_two_eq_zero_or_one (x / 2 ^ i.toNat)
    simp at this
    omega
  go_enter Tryd.func4, Tryd.ntmps4
  go_wp2_with fail
  refine (awake_any hT).mono ?_
  rintro e w1 ⟨rfl, b⟩
  have h1 := h1.on b
  have hT := hT.on b
  have B := b
  clear b
  go_wp2_with fail
  refine (rof_arg h1 (by omega)).mono ?_
  rintro e w2 ⟨A_bx, n_bx, c_bx, rfl, bx, b⟩
  have l_bx : n_bx ≤ 20000 := by rw [bx.size]; omega
  have h1 := h1.on b
  have hT := hT.on b
  have B := Below.step B b
  clear b
  have HBX := Lib.hid bx.size
  go_wp2_with fail
  refine (rbit_val bx (by omega) i false (by exact HB)).mono ?_
  rintro e w3 ⟨rfl, rfl⟩
  go_wp2_with fail
  refine (word_over h1 (by omega) hov).mono ?_
  rintro e w4 ⟨rfl, rfl⟩
  go_wp2_with fail
  refine (rfull_over bx hov).mono ?_
  rintro e w5 ⟨rfl, rfl⟩
  have hl := HBX.out
  have lz : ((l : Int) == (n_bx : Int)) = true := by rw [hl, HL.out]; simp
  clear hl
  go_wp2_with fail
  refine (len_as l h1 (by omega) HL.out).mono ?_
  rintro e w6 ⟨rfl, rfl⟩
  go_wp2_with fail
  refine (bit_as 0 h1 i (by omega) (by omega) HBV.out).mono ?_
  rintro e w7 ⟨rfl, rfl⟩
  go_wp2_with fail
  refine (zeros_any h1 (by omega) hT).mono ?_
  rintro e w8 ⟨z1, rfl, hz0, hz1, hz2, rfl⟩
  have HZ0 := Lib.hid hz0
  have HZ1 := Lib.hid hz1
  clear hz0 hz1
  go_wp2_with fail
  refine (rzeros_any bx (by omega)).mono ?_
  rintro e w9 ⟨z2, rfl, hy0, hy1, hy2, rfl⟩
  obtain rfl : z1 = z2 := zeros_same HZ0.out HZ1.out hy0 hy1
  clear HZ0 HZ1 hy0 hy1
  go_wp2_with fail
  refine (of_any n hn _).mono ?_
  rintro e w10 ⟨A_ro, n_ro, rfl, ro, l_ro, b⟩
  have h1 := h1.on b
  have hT := hT.on b
  have bx := bx.on b
  have B := Below.step B b
  clear b
  go_wp2_with fail
  refine (rword_any n hn _).mono ?_
  rintro e w11 ⟨A_bw, n_bw, c_bw, rfl, bw, b⟩
  have l_bw : n_bw ≤ 20000 := by rw [bw.size]; exact Nat.le_trans ((blen_le n 64).2 (by omega)) (by omega)
  have h1 := h1.on b
  have hT := hT.on b
  have bx := bx.on b
  have ro := ro.on b
  have B := Below.step B b
  clear b
  go_wp2_with fail
  refine (rparts_any bw (by omega)).mono ?_
  rintro e w12 ⟨A_pw_, n_pw_, c_pw_, rfl, pw_, l_pw_, b⟩
  have h1 := h1.on b
  have hT := hT.on b
  have bx := bx.on b
  have ro := ro.on b
  have bw := bw.on b
  have B := Below.step B b
  clear b
  clear bw
  have q9 : blen n ≤ 64 := (blen_le n 64).2 (by omega)
  go_wp2_with fail
  refine (same_res ro pw_ (by omega) (by omega)).mono ?_
  rintro e w13 ⟨rfl, b⟩
  have h1 := h1.on b
  have hT := hT.on b
  have bx := bx.on b
  have ro := ro.on b
  have pw_ := pw_.on b
  have B := Below.step B b
  clear b
  go_wp2_with fail
  go_ret
  exact ⟨rfl, B⟩


set_option maxHeartbeats 1000000 in
theorem tells_walk {A1 : Option Addr} {n1 c1 x : Nat} {i n : Int} {w : World} (h1 : Arg w A1 n1 c1 x) (wi : (Lit.int .i64 i).wf = true) (wn : (Lit.int .u64 n).wf = true) (hT : Tab w) :
    Calls Tryd.prog 4 #[.slice A1 n1 c1, .int .i64 i, .int .u64 n] w fun e w' => e = .returned (.bool true) ∧ Below w.heap.size w w' := by
  have hi : i ≤ 9223372036854775807 := by
    simp [Lit.wf, IntKind.min, IntKind.max, IntKind.signed, IntKind.bits] at wi
    omega
  have hb : 0 ≤ n ∧ n < 18446744073709551616 := by
    simp [Lit.wf, IntKind.min, IntKind.max, IntKind.signed, IntKind.bits] at wn
    omega
  obtain ⟨k, rfl⟩ := Int.eq_ofNat_of_zero_le hb.1
  have hk : k < 18446744073709551616 := by omega
  by_cases s1 : n1 ≤ 24
  · by_cases h0 : i < 0
    · have HB : Hid (bitOf x i = false) := by show _ = _; unfold bitOf; rw [if_pos h0]
      rcases Nat.lt_or_ge x 18446744073709551616 with h | h
      · exact tells_neg h1 hk hT s1 h0 h HB
      · exact tells_neg_over h1 hk hT s1 h0 h HB
    · cases e : bitOf x i
      · rcases Nat.lt_or_ge x 18446744073709551616 with h | h
        · exact tells_nil h1 hk hT s1 (by omega) hi h (Lib.hid e)
        · exact tells_nil_over h1 hk hT s1 (by omega) hi h (Lib.hid e)
      · rcases Nat.lt_or_ge x 18446744073709551616 with h | h
        · exact tells_one h1 hk hT s1 (by omega) hi h (Lib.hid e)
        · exact tells_one_over h1 hk hT s1 (by omega) hi h (Lib.hid e)
  · have d1 : decide (24 < (n1 : Int)) = true := decide_eq_true (by omega)
    go_enter Tryd.func4, Tryd.ntmps4
    go_wp2_with fail
    refine (awake_any hT).mono ?_
    rintro e w1 ⟨rfl, B⟩
    go_wp2_with fail
    go_ret
    exact ⟨rfl, B⟩
end Go.Proofs.YtlkoodomcnbicaaDoor
