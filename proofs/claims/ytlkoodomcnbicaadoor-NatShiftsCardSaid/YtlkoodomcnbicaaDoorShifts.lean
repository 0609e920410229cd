/-
  The walk of the law NatShifts.
-/
import Derived.Test.YtlkoodomcnbicaaDoorAdds
namespace Go.Proofs.YtlkoodomcnbicaaDoor
open Go.RowKit
set_option linter.unusedVariables false

def RightB (w : World) (x k n : Nat) (bl : Bool) (e : Ending) (w' : World) : Prop :=
  ∃ A m, e = .returned (.tuple #[.slice A m m, .bool bl]) ∧ Res w' A m (x / 2 ^ k) ∧ m ≤ n ∧ Below w.heap.size w w'
theorem right_bl {A : Option Addr} {n c x : Nat} {w : World} (h : Arg w A n c x) (hs : n ≤ 1000000) (i : Int) (hi2 : i ≤ 9223372036854775807) (hT : Tab w) (bl : Bool) (hb : Hid (decide (x % 2 ^ i.toNat ≠ 0) = bl)) :
    Calls Tryd.prog 31 #[.slice A n c, .int .i64 i] w (RightB w x i.toNat n bl) := by
  refine (right_any h hs i hi2 hT).mono ?_
  rintro e w' ⟨A', m, rfl, hr, hm, hb'⟩
  exact ⟨A', m, by rw [hb.out], hr, hm, hb'⟩
def RRightB (w : World) (x k : Nat) (bl : Bool) (e : Ending) (w' : World) : Prop :=
  ∃ A n c, e = .returned (.tuple #[.slice A n c, .bool bl]) ∧ BR w A n c (x / 2 ^ k) ∧ w = w'
theorem rright_bl {A : Option Addr} {n c x : Nat} {w : World} (h : BR w A n c x) (hn : n ≤ 1000000) (i : Int) (bl : Bool) (hb : Hid (decide (x % 2 ^ i.toNat ≠ 0) = bl)) :
    Calls Tryd.prog 32 #[.slice A n c, .int .i64 i] w (RRightB w x i.toNat bl) := by
  refine (rright_any h hn i).mono ?_
  rintro e w' ⟨A', m, c', rfl, hr, rfl⟩
  exact ⟨A', m, c', by rw [hb.out], hr, rfl⟩

set_option maxHeartbeats 4000000 in
set_option maxRecDepth 100000 in
theorem shifts_neg {A1 : Option Addr} {n1 c1 x : Nat} {i : Int} {w : World} (h1 : Arg w A1 n1 c1 x) (hT : Tab w) (s1 : n1 ≤ 24) (hi : i < 0) (hi2 : i ≤ 9223372036854775807) :
    Calls Tryd.prog 5 #[.slice A1 n1 c1, .int .i64 i] w fun e w' => e = .returned (.bool true) ∧ Below w.heap.size w w' := by
  have d1 : decide (24 < (n1 : Int)) = false := decide_eq_false (by omega)
  have q1 := h1.blen
  obtain ⟨bl, eb⟩ : ∃ bl, decide (x % 2 ^ (i).toNat ≠ 0) = bl := ⟨_, rfl⟩
  have HB := Lib.hid eb
  have hbl : (bl != bl) = false := by simp
  clear eb
  go_enter Tryd.func5, Tryd.ntmps5
  go_wp2_with fail
  refine (awake_any hT).mono ?_
  rintro e w1 ⟨rfl, b⟩
  have h1 := h1.on b
  have hT := hT.on b
  have B := b
  clear b
  go_wp2_with fail
  refine (rof_arg h1 (by omega)).mono ?_
  rintro e w2 ⟨A_bx, n_bx, c_bx, rfl, bx, b⟩
  have l_bx : n_bx ≤ 20000 := by rw [bx.size]; omega
  have h1 := h1.on b
  have hT := hT.on b
  have B := Below.step B b
  clear b
  go_wp2_with fail
  refine (left_arg i hi).mono ?_
  rintro e w3 ⟨rfl, b⟩
  have h1 := h1.on b
  have hT := hT.on b
  have bx := bx.on b
  have B := Below.step B b
  clear b
  go_wp2_with fail
  refine (right_bl h1 (by omega) i (by omega) hT bl HB).mono ?_
  rintro e w4 ⟨A_r, n_r, rfl, rr, l_r, b⟩
  have h1 := h1.on b
  have hT := hT.on b
  have bx := bx.on b
  have B := Below.step B b
  clear b
  go_wp2_with fail
  refine (rright_bl bx (by omega) i bl HB).mono ?_
  rintro e w5 ⟨A_y, n_y, c_y, rfl, ry, rfl⟩
  have l_y : n_y ≤ 20000 := by rw [ry.size]; exact Nat.le_trans (blen_le_of (Nat.div_le_self _ _)) (by omega)
  have q9 := blen_le_of (Nat.div_le_self x (2 ^ (i).toNat))
  go_wp2_with fail
  refine (rparts_any ry (by omega)).mono ?_
  rintro e w6 ⟨A_py, n_py, c_py, rfl, py, l_py, b⟩
  have h1 := h1.on b
  have hT := hT.on b
  have bx := bx.on b
  have rr := rr.on b
  have B := Below.step B b
  clear b
  clear ry
  go_wp2_with fail
  refine (same_res rr py (by omega) (by omega)).mono ?_
  rintro e w7 ⟨rfl, b⟩
  have h1 := h1.on b
  have hT := hT.on b
  have bx := bx.on b
  have rr := rr.on b
  have py := py.on b
  have B := Below.step B b
  clear b
  clear rr py
  go_wp2_with fail
  go_ret
  exact ⟨rfl, B⟩

set_option maxHeartbeats 4000000 in
set_option maxRecDepth 100000 in
theorem shifts_zero {A1 : Option Addr} {n1 c1 : Nat} {i : Int} {w : World} (h1 : Arg w A1 n1 c1 0) (hT : Tab w) (s1 : n1 ≤ 24) (hi : 0 ≤ i) (hi2 : i ≤ 9223372036854775807) :
    Calls Tryd.prog 5 #[.slice A1 n1 c1, .int .i64 i] w fun e w' => e = .returned (.bool true) ∧ Below w.heap.size w w' := by
  have d1 : decide (24 < (n1 : Int)) = false := decide_eq_false (by omega)
  have q1 : blen 0 ≤ 0 := Nat.le_refl _
  obtain ⟨bl, eb⟩ : ∃ bl, decide (0 % 2 ^ (i).toNat ≠ 0) = bl := ⟨_, rfl⟩
  have HB := Lib.hid eb
  have hbl : (bl != bl) = false := by simp
  clear eb
  go_enter Tryd.func5, Tryd.ntmps5
  go_wp2_with fail
  refine (awake_any hT).mono ?_
  rintro e w1 ⟨rfl, b⟩
  have h1 := h1.on b
  have hT := hT.on b
  have B := b
  clear b
  go_wp2_with fail
  refine (rof_arg h1 (by omega)).mono ?_
  rintro e w2 ⟨A_bx, n_bx, c_bx, rfl, bx, b⟩
  have l_bx : n_bx ≤ 20000 := by rw [bx.size]; omega
  have h1 := h1.on b
  have hT := hT.on b
  have B := Below.step B b
  clear b
  have hx0 : n_bx ≤ 0 := by rw [bx.size, blen_zero]; exact Nat.le_refl _
  go_wp2_with fail
  refine (left_none h1 i hi).mono ?_
  rintro e w3 ⟨A_rl, n_rl, rfl, rl, l_rl, b⟩
  have h1 := h1.on b
  have hT := hT.on b
  have bx := bx.on b
  have B := Below.step B b
  clear b
  go_wp2_with fail
  refine (right_bl h1 (by omega) i (by omega) hT bl HB).mono ?_
  rintro e w4 ⟨A_r, n_r, rfl, rr, l_r, b⟩
  have h1 := h1.on b
  have hT := hT.on b
  have bx := bx.on b
  have rl := rl.on b
  have B := Below.step B b
  clear b
  go_wp2_with fail
  refine (rright_bl bx (by omega) i bl HB).mono ?_
  rintro e w5 ⟨A_y, n_y, c_y, rfl, ry, rfl⟩
  have l_y : n_y ≤ 20000 := by rw [ry.size]; exact Nat.le_trans (blen_le_of (Nat.div_le_self _ _)) (by omega)
  have q9 := blen_le_of (Nat.div_le_self 0 (2 ^ (i).toNat))
  go_wp2_with fail
  refine (rparts_any ry (by omega)).mono ?_
  rintro e w6 ⟨A_py, n_py, c_py, rfl, py, l_py, b⟩
  have h1 := h1.on b
  have hT := hT.on b
  have bx := bx.on b
  have rl := rl.on b
  have rr := rr.on b
  have B := Below.step B b
  clear b
  clear ry
  go_wp2_with fail
  refine (same_res rr py (by omega) (by omega)).mono ?_
  rintro e w7 ⟨rfl, b⟩
  have h1 := h1.on b
  have hT := hT.on b
  have bx := bx.on b
  have rl := rl.on b
  have rr := rr.on b
  have py := py.on b
  have B := Below.step B b
  clear b
  clear rr py
  obtain rfl : n_rl = 0 := by omega
  obtain rfl : n_bx = 0 := by omega
  go_wp2_with fail
  go_ret
  exact ⟨rfl, B⟩

set_option maxHeartbeats 4000000 in
set_option maxRecDepth 100000 in
theorem shifts_over {A1 : Option Addr} {n1 c1 x : Nat} {i : Int} {w : World} (h1 : Arg w A1 n1 c1 x) (hT : Tab w) (s1 : n1 ≤ 24) (hx : x ≠ 0) (hi : 0 ≤ i) (hi2 : i ≤ 9223372036854775807) (hov : 16384 < (blen x : Int) + i) :
    Calls Tryd.prog 5 #[.slice A1 n1 c1, .int .i64 i] w fun e w' => e = .returned (.bool true) ∧ Below w.heap.size w w' := by
  have d1 : decide (24 < (n1 : Int)) = false := decide_eq_false (by omega)
  have q1 := h1.blen
  obtain ⟨bl, eb⟩ : ∃ bl, decide (x % 2 ^ (i).toNat ≠ 0) = bl := ⟨_, rfl⟩
  have HB := Lib.hid eb
  have hbl : (bl != bl) = false := by simp
  clear eb
  go_enter Tryd.func5, Tryd.ntmps5
  go_wp2_with fail
  refine (awake_any hT).mono ?_
  rintro e w1 ⟨rfl, b⟩
  have h1 := h1.on b
  have hT := hT.on b
  have B := b
  clear b
  go_wp2_with fail
  refine (rof_arg h1 (by omega)).mono ?_
  rintro e w2 ⟨A_bx, n_bx, c_bx, rfl, bx, b⟩
  have l_bx : n_bx ≤ 20000 := by rw [bx.size]; omega
  have h1 := h1.on b
  have hT := hT.on b
  have B := Below.step B b
  clear b
  have hx0 : 0 < n_bx := by rw [bx.size]; exact (blen_pos hx).2
  have hx1 : 16384 - (n_bx : Int) < i := by rw [bx.size]; omega
  go_wp2_with fail
  refine (left_over h1 (by omega) hx i hi hi2 hov).mono ?_
  rintro e w3 ⟨rfl, b⟩
  have h1 := h1.on b
  have hT := hT.on b
  have bx := bx.on b
  have B := Below.step B b
  clear b
  go_wp2_with fail
  refine (right_bl h1 (by omega) i (by omega) hT bl HB).mono ?_
  rintro e w4 ⟨A_r, n_r, rfl, rr, l_r, b⟩
  have h1 := h1.on b
  have hT := hT.on b
  have bx := bx.on b
  have B := Below.step B b
  clear b
  go_wp2_with fail
  refine (rright_bl bx (by omega) i bl HB).mono ?_
  rintro e w5 ⟨A_y, n_y, c_y, rfl, ry, rfl⟩
  have l_y : n_y ≤ 20000 := by rw [ry.size]; exact Nat.le_trans (blen_le_of (Nat.div_le_self _ _)) (by omega)
  have q9 := blen_le_of (Nat.div_le_self x (2 ^ (i).toNat))
  go_wp2_with fail
  refine (rparts_any ry (by omega)).mono ?_
  rintro e w6 ⟨A_py, n_py, c_py, rfl, py, l_py, b⟩
  have h1 := h1.on b
  have hT := hT.on b
  have bx := bx.on b
  have rr := rr.on b
  have B := Below.step B b
  clear b
  clear ry
  go_wp2_with fail
  refine (same_res rr py (by omega) (by omega)).mono ?_
  rintro e w7 ⟨rfl, b⟩
  have h1 := h1.on b
  have hT := hT.on b
  have bx := bx.on b
  have rr := rr.on b
  have py := py.on b
  have B := Below.step B b
  clear b
  clear rr py
  go_wp2_with fail
  go_ret
  exact ⟨rfl, B⟩

set_option maxHeartbeats 4000000 in
set_option maxRecDepth 100000 in
theorem shifts_fit {A1 : Option Addr} {n1 c1 x k : Nat} {w : World} (h1 : Arg w A1 n1 c1 x) (hT : Tab w) (s1 : n1 ≤ 24) (hx : x ≠ 0) (hfit : blen x + k ≤ 16384) :
    Calls Tryd.prog 5 #[.slice A1 n1 c1, .int .i64 (k : Int)] w fun e w' => e = .returned (.bool true) ∧ Below w.heap.size w w' := by
  have d1 : decide (24 < (n1 : Int)) = false := decide_eq_false (by omega)
  have q1 := h1.blen
  have q2 := blen_mul x (2 ^ k)
  have q3 : blen (2 ^ k) ≤ k + 1 := (blen_le _ _).2 (Nat.pow_lt_pow_right (by omega) (by omega))
  obtain ⟨bl, eb⟩ : ∃ bl, decide (x % 2 ^ ((k : Int)).toNat ≠ 0) = bl := ⟨_, rfl⟩
  have HB := Lib.hid eb
  have hbl : (bl != bl) = false := by simp
  clear eb
  go_enter Tryd.func5, Tryd.ntmps5
  go_wp2_with fail
  refine (awake_any hT).mono ?_
  rintro e w1 ⟨rfl, b⟩
  have h1 := h1.on b
  have hT := hT.on b
  have B := b
  clear b
  go_wp2_with fail
  refine (rof_arg h1 (by omega)).mono ?_
  rintro e w2 ⟨A_bx, n_bx, c_bx, rfl, bx, b⟩
  have l_bx : n_bx ≤ 20000 := by rw [bx.size]; omega
  have h1 := h1.on b
  have hT := hT.on b
  have B := Below.step B b
  clear b
  have hx0 : 0 < n_bx := by rw [bx.size]; exact (blen_pos hx).2
  have hx1 : (k : Int) ≤ 16384 - (n_bx : Int) := by rw [bx.size]; omega
  go_wp2_with fail
  refine (left_any h1 (by omega) hx k hfit).mono ?_
  rintro e w3 ⟨A_rl, n_rl, rfl, rl, l_rl, b⟩
  have h1 := h1.on b
  have hT := hT.on b
  have bx := bx.on b
  have B := Below.step B b
  clear b
  go_wp2_with fail
  refine (right_bl h1 (by omega) (k : Int) (by omega) hT bl HB).mono ?_
  rintro e w4 ⟨A_r, n_r, rfl, rr, l_r, b⟩
  have h1 := h1.on b
  have hT := hT.on b
  have bx := bx.on b
  have rl := rl.on b
  have B := Below.step B b
  clear b
  go_wp2_with fail
  refine (rright_bl bx (by omega) (k : Int) bl HB).mono ?_
  rintro e w5 ⟨A_y, n_y, c_y, rfl, ry, rfl⟩
  have l_y : n_y ≤ 20000 := by rw [ry.size]; exact Nat.le_trans (blen_le_of (Nat.div_le_self _ _)) (by omega)
  have q9 := blen_le_of (Nat.div_le_self x (2 ^ ((k : Int)).toNat))
  go_wp2_with fail
  refine (rparts_any ry (by omega)).mono ?_
  rintro e w6 ⟨A_py, n_py, c_py, rfl, py, l_py, b⟩
  have h1 := h1.on b
  have hT := hT.on b
  have bx := bx.on b
  have rl := rl.on b
  have rr := rr.on b
  have B := Below.step B b
  clear b
  clear ry
  go_wp2_with fail
  refine (same_res rr py (by omega) (by omega)).mono ?_
  rintro e w7 ⟨rfl, b⟩
  have h1 := h1.on b
  have hT := hT.on b
  have bx := bx.on b
  have rl := rl.on b
  have rr := rr.on b
  have py := py.on b
  have B := Below.step B b
  clear b
  clear rr py
  go_wp2_with fail
  refine (rleft_any bx hx (by omega) k (by omega)).mono ?_
  rintro e w8 ⟨A_bl_, n_bl_, c_bl_, rfl, bl_, b⟩
  have l_bl_ : n_bl_ ≤ 20000 := by rw [bl_.size]; omega
  have h1 := h1.on b
  have hT := hT.on b
  have bx := bx.on b
  have rl := rl.on b
  have B := Below.step B b
  clear b
  go_wp2_with fail
  refine (rparts_any bl_ (by omega)).mono ?_
  rintro e w9 ⟨A_pl, n_pl, c_pl, rfl, pl, l_pl, b⟩
  have h1 := h1.on b
  have hT := hT.on b
  have bx := bx.on b
  have rl := rl.on b
  have bl_ := bl_.on b
  have B := Below.step B b
  clear b
  go_wp2_with fail
  refine (same_res rl pl (by omega) (by omega)).mono ?_
  rintro e w10 ⟨rfl, b⟩
  have h1 := h1.on b
  have hT := hT.on b
  have bx := bx.on b
  have rl := rl.on b
  have bl_ := bl_.on b
  have pl := pl.on b
  have B := Below.step B b
  clear b
  go_wp2_with fail
  go_ret
  exact ⟨rfl, B⟩


set_option maxHeartbeats 1000000 in
theorem shifts_walk {A1 : Option Addr} {n1 c1 x : Nat} {i : Int} {w : World} (h1 : Arg w A1 n1 c1 x) (wi : (Lit.int .i64 i).wf = true) (hT : Tab w) :
    Calls Tryd.prog 5 #[.slice A1 n1 c1, .int .i64 i] w fun e w' => e = .returned (.bool true) ∧ Below w.heap.size w w' := by
  have hi : i ≤ 9223372036854775807 := by
    simp [Lit.wf, IntKind.min, IntKind.max, IntKind.signed, IntKind.bits] at wi
    omega
  by_cases s1 : n1 ≤ 24
  · by_cases h0 : i < 0
    · exact shifts_neg h1 hT s1 h0 hi
    · by_cases hx : x = 0
      · subst hx
        exact shifts_zero h1 hT s1 (by omega) hi
      · by_cases hov : 16384 < (blen x : Int) + i
        · exact shifts_over h1 hT s1 hx (by omega) hi hov
        · obtain ⟨k, rfl⟩ := Int.eq_ofNat_of_zero_le (show 0 ≤ i by omega)
          exact shifts_fit h1 hT s1 hx (by omega)
  · have d1 : decide (24 < (n1 : Int)) = true := decide_eq_true (by omega)
    go_enter Tryd.func5, Tryd.ntmps5
    go_wp2_with fail
    refine (awake_any hT).mono ?_
    rintro e w1 ⟨rfl, B⟩
    go_wp2_with fail
    go_ret
    exact ⟨rfl, B⟩
end Go.Proofs.YtlkoodomcnbicaaDoor
