/-
  The walk of the law NatParts.
-/
import Derived.Test.YtlkoodomcnbicaaDoorBack
namespace Go.Proofs.YtlkoodomcnbicaaDoor
open Go.RowKit
set_option linter.unusedVariables false

theorem left_fit {A : Option Addr} {n c x : Nat} {w : World} (h : Arg w A n c x) (hs : n ≤ 1000000) (i : Nat) (hfit : blen x + i ≤ 16384) :
    Calls Tryd.prog 30 #[.slice A n c, .int .i64 (i : Int)] w (NatOk w (x * 2 ^ i) (n + i / 32 + 1)) := by
  by_cases hx : x = 0
  · subst hx
    refine (left_none h (i : Int) (by omega)).mono ?_
    rintro e w' ⟨A', m, rfl, hr, hm, hb⟩
    exact ⟨A', m, rfl, by rw [Nat.zero_mul]; exact hr, by omega, hb⟩
  · exact left_any h hs hx i hfit
theorem bit_top {x : Nat} (hx : x ≠ 0) : x / 2 ^ (blen x - 1) % 2 = 1 := by
  obtain ⟨h1, h2⟩ := blen_pos hx
  have h3 := blen_self x
  obtain ⟨m, hm⟩ : ∃ m, blen x = m + 1 := ⟨blen x - 1, by omega⟩
  rw [hm] at h1 h3 ⊢
  simp only [Nat.add_sub_cancel] at h1 ⊢
  have h4 : x / 2 ^ m = 1 := by
    rw [Nat.div_eq_iff (Nat.two_pow_pos m)]
    rw [Nat.pow_succ] at h3
    omega
  rw [h4]
theorem Ctz.bit {x k : Nat} (h : Ctz x k) : x / 2 ^ k % 2 = 1 := by
  obtain ⟨m, hm⟩ := h.2
  rw [hm, Nat.mul_div_cancel_left _ (Nat.two_pow_pos k)]
  omega
theorem blen_le_of {x y : Nat} (h : x ≤ y) : blen x ≤ blen y := (blen_le x _).2 (Nat.lt_of_le_of_lt h (blen_self y))
theorem blen_one_shift (k : Nat) : blen 1 = 1 := blen_unique (k := 0) (by omega) (by omega)

set_option maxHeartbeats 4000000 in
set_option maxRecDepth 100000 in
theorem parts_zero {A1 : Option Addr} {n1 c1 x i : Nat} {w : World} (h1 : Arg w A1 n1 c1 x) (hi : i < 65536) (hT : Tab w) (s1 : n1 ≤ 24) (hx : x = 0) (ht : x % 2 ^ (i % 800) = 0) :
    Calls Tryd.prog 8 #[.slice A1 n1 c1, .int .u16 (i : Int)] w fun e w' => e = .returned (.bool true) ∧ Below w.heap.size w w' := by
  have d1 : decide (24 < (n1 : Int)) = false := decide_eq_false (by omega)
  have q1 := h1.blen
  have HL : Hid (blen x = 0) := by show _ = _; rw [hx]; rfl
  obtain ⟨l, el⟩ : ∃ l : Nat, l = 0 := ⟨_, rfl⟩
  rw [← el] at HL
  have l0 : l ≤ 0 := by omega
  have lz : ((l : Int) == 0) = true := by rw [el]; rfl
  clear el
  go_enter Tryd.func8, Tryd.ntmps8
  go_wp2_with fail
  refine (awake_any hT).mono ?_
  rintro e w1 ⟨rfl, b⟩
  have h1 := h1.on b
  have hT := hT.on b
  have B := b
  clear b
  go_wp2_with fail
  rw [show (i : Int) % 800 = ((i % 800 : Nat) : Int) from by omega]
  have hk : i % 800 < 800 := by omega
  generalize i % 800 = k at *
  refine (right_as k h1 (by omega) (by omega) hT).mono ?_
  rintro e w2 ⟨A_r, n_r, rfl, rr, l_r, b⟩
  have h1 := h1.on b
  have hT := hT.on b
  have B := Below.step B b
  clear b
  have hlost : decide (x % 2 ^ k ≠ 0) = false := by simp [ht]
  rw [hlost]
  clear hlost
  have q2 := blen_le_of (Nat.div_le_self x (2 ^ k))
  go_wp2_with fail
  refine (left_fit (rr.arg (by omega)) (by omega) k (by omega)).mono ?_
  rintro e w3 ⟨A_rl, n_rl, rfl, rl, l_rl, b⟩
  have h1 := h1.on b
  have hT := hT.on b
  have rr := rr.on b
  have B := Below.step B b
  clear b
  clear rr
  go_wp2_with fail
  refine (sub_any h1 (rl.arg (by omega)) (by omega) (by omega) (Nat.div_mul_le_self _ _)).mono ?_
  rintro e w4 ⟨A_rw_, n_rw_, rfl, rw_, l_rw_, b⟩
  have h1 := h1.on b
  have hT := hT.on b
  have rl := rl.on b
  have B := Below.step B b
  clear b
  clear rl
  have ew : x - x / 2 ^ k * 2 ^ k = x % 2 ^ k := by have := Nat.div_add_mod x (2 ^ k); rw [Nat.mul_comm] at this; omega
  rw [ew] at rw_
  clear ew
  go_wp2_with fail
  refine (of_any 1 (by omega) _).mono ?_
  rintro e w5 ⟨A_ro, n_ro, rfl, ro, l_ro, b⟩
  have h1 := h1.on b
  have hT := hT.on b
  have rw_ := rw_.on b
  have B := Below.step B b
  clear b
  go_wp2_with fail
  refine (left_fit (ro.arg (by omega)) (by omega) k (by rw [blen_one_shift k]; omega)).mono ?_
  rintro e w6 ⟨A_rk, n_rk, rfl, rk, l_rk, b⟩
  have h1 := h1.on b
  have hT := hT.on b
  have rw_ := rw_.on b
  have ro := ro.on b
  have B := Below.step B b
  clear b
  clear ro
  go_wp2_with fail
  refine (cmp_as (-1) (rw_.arg (by omega)) (rk.arg (by omega)) (by omega) (by omega) (cmpI_of_lt (by rw [Nat.one_mul]; exact Nat.mod_lt _ (Nat.two_pow_pos k)))).mono ?_
  rintro e w7 ⟨rfl, b⟩
  have h1 := h1.on b
  have hT := hT.on b
  have rw_ := rw_.on b
  have rk := rk.on b
  have B := Below.step B b
  clear b
  clear rk
  go_wp2_with fail
  refine (len_as 0 (rw_.arg (by omega)) (by omega) (by rw [ht]; rfl)).mono ?_
  rintro e w8 ⟨rfl, rfl⟩
  clear rw_
  go_wp2_with fail
  refine (of_any 1 (by omega) _).mono ?_
  rintro e w9 ⟨A_ro, n_ro, rfl, ro, l_ro, b⟩
  have h1 := h1.on b
  have hT := hT.on b
  have B := Below.step B b
  clear b
  go_wp2_with fail
  refine (len_as l h1 (by omega) HL.out).mono ?_
  rintro e w10 ⟨rfl, rfl⟩
  go_wp2_with fail
  refine (left_fit (ro.arg (by omega)) (by omega) l (by rw [blen_one_shift l]; omega)).mono ?_
  rintro e w11 ⟨A_rt, n_rt, rfl, rt, l_rt, b⟩
  have h1 := h1.on b
  have hT := hT.on b
  have ro := ro.on b
  have B := Below.step B b
  clear b
  clear ro
  go_wp2_with fail
  refine (cmp_as (-1) h1 (rt.arg (by omega)) (by omega) (by omega) (cmpI_of_lt (by rw [Nat.one_mul, ← HL.out]; exact blen_self x))).mono ?_
  rintro e w12 ⟨rfl, b⟩
  have h1 := h1.on b
  have hT := hT.on b
  have rt := rt.on b
  have B := Below.step B b
  clear b
  clear rt
  go_wp2_with fail
  refine (len_as l h1 (by omega) HL.out).mono ?_
  rintro e w13 ⟨rfl, rfl⟩
  go_wp2_with fail
  go_ret
  exact ⟨rfl, B⟩

set_option maxHeartbeats 4000000 in
set_option maxRecDepth 100000 in
theorem parts_even {A1 : Option Addr} {n1 c1 x i : Nat} {w : World} (h1 : Arg w A1 n1 c1 x) (hi : i < 65536) (hT : Tab w) (s1 : n1 ≤ 24) (hx : x ≠ 0) (ht : x % 2 ^ (i % 800) = 0) :
    Calls Tryd.prog 8 #[.slice A1 n1 c1, .int .u16 (i : Int)] w fun e w' => e = .returned (.bool true) ∧ Below w.heap.size w w' := by
  have d1 : decide (24 < (n1 : Int)) = false := decide_eq_false (by omega)
  have q1 := h1.blen
  obtain ⟨l, el⟩ : ∃ l, blen x = l := ⟨_, rfl⟩
  have l0 : 0 < l := by rw [← el]; exact (blen_pos hx).2
  have l1 : l ≤ 768 := by omega
  have lz : ((l : Int) == 0) = false := by simp; omega
  have HL := Lib.hid el
  clear el
  go_enter Tryd.func8, Tryd.ntmps8
  go_wp2_with fail
  refine (awake_any hT).mono ?_
  rintro e w1 ⟨rfl, b⟩
  have h1 := h1.on b
  have hT := hT.on b
  have B := b
  clear b
  go_wp2_with fail
  rw [show (i : Int) % 800 = ((i % 800 : Nat) : Int) from by omega]
  have hk : i % 800 < 800 := by omega
  generalize i % 800 = k at *
  refine (right_as k h1 (by omega) (by omega) hT).mono ?_
  rintro e w2 ⟨A_r, n_r, rfl, rr, l_r, b⟩
  have h1 := h1.on b
  have hT := hT.on b
  have B := Below.step B b
  clear b
  have hlost : decide (x % 2 ^ k ≠ 0) = false := by simp [ht]
  rw [hlost]
  clear hlost
  have q2 := blen_le_of (Nat.div_le_self x (2 ^ k))
  go_wp2_with fail
  refine (left_fit (rr.arg (by omega)) (by omega) k (by omega)).mono ?_
  rintro e w3 ⟨A_rl, n_rl, rfl, rl, l_rl, b⟩
  have h1 := h1.on b
  have hT := hT.on b
  have rr := rr.on b
  have B := Below.step B b
  clear b
  clear rr
  go_wp2_with fail
  refine (sub_any h1 (rl.arg (by omega)) (by omega) (by omega) (Nat.div_mul_le_self _ _)).mono ?_
  rintro e w4 ⟨A_rw_, n_rw_, rfl, rw_, l_rw_, b⟩
  have h1 := h1.on b
  have hT := hT.on b
  have rl := rl.on b
  have B := Below.step B b
  clear b
  clear rl
  have ew : x - x / 2 ^ k * 2 ^ k = x % 2 ^ k := by have := Nat.div_add_mod x (2 ^ k); rw [Nat.mul_comm] at this; omega
  rw [ew] at rw_
  clear ew
  go_wp2_with fail
  refine (of_any 1 (by omega) _).mono ?_
  rintro e w5 ⟨A_ro, n_ro, rfl, ro, l_ro, b⟩
  have h1 := h1.on b
  have hT := hT.on b
  have rw_ := rw_.on b
  have B := Below.step B b
  clear b
  go_wp2_with fail
  refine (left_fit (ro.arg (by omega)) (by omega) k (by rw [blen_one_shift k]; omega)).mono ?_
  rintro e w6 ⟨A_rk, n_rk, rfl, rk, l_rk, b⟩
  have h1 := h1.on b
  have hT := hT.on b
  have rw_ := rw_.on b
  have ro := ro.on b
  have B := Below.step B b
  clear b
  clear ro
  go_wp2_with fail
  refine (cmp_as (-1) (rw_.arg (by omega)) (rk.arg (by omega)) (by omega) (by omega) (cmpI_of_lt (by rw [Nat.one_mul]; exact Nat.mod_lt _ (Nat.two_pow_pos k)))).mono ?_
  rintro e w7 ⟨rfl, b⟩
  have h1 := h1.on b
  have hT := hT.on b
  have rw_ := rw_.on b
  have rk := rk.on b
  have B := Below.step B b
  clear b
  clear rk
  go_wp2_with fail
  refine (len_as 0 (rw_.arg (by omega)) (by omega) (by rw [ht]; rfl)).mono ?_
  rintro e w8 ⟨rfl, rfl⟩
  clear rw_
  go_wp2_with fail
  refine (of_any 1 (by omega) _).mono ?_
  rintro e w9 ⟨A_ro, n_ro, rfl, ro, l_ro, b⟩
  have h1 := h1.on b
  have hT := hT.on b
  have B := Below.step B b
  clear b
  go_wp2_with fail
  refine (len_as l h1 (by omega) HL.out).mono ?_
  rintro e w10 ⟨rfl, rfl⟩
  go_wp2_with fail
  refine (left_fit (ro.arg (by omega)) (by omega) l (by rw [blen_one_shift l]; omega)).mono ?_
  rintro e w11 ⟨A_rt, n_rt, rfl, rt, l_rt, b⟩
  have h1 := h1.on b
  have hT := hT.on b
  have ro := ro.on b
  have B := Below.step B b
  clear b
  clear ro
  go_wp2_with fail
  refine (cmp_as (-1) h1 (rt.arg (by omega)) (by omega) (by omega) (cmpI_of_lt (by rw [Nat.one_mul, ← HL.out]; exact blen_self x))).mono ?_
  rintro e w12 ⟨rfl, b⟩
  have h1 := h1.on b
  have hT := hT.on b
  have rt := rt.on b
  have B := Below.step B b
  clear b
  clear rt
  go_wp2_with fail
  refine (len_as l h1 (by omega) HL.out).mono ?_
  rintro e w13 ⟨rfl, rfl⟩
  go_wp2_with fail
  refine (len_as l h1 (by omega) HL.out).mono ?_
  rintro e w14 ⟨rfl, rfl⟩
  go_wp2_with fail
  refine (bit_as 1 h1 _ (by omega) (by omega) (by rw [show ((l : Int) - 1).toNat = l - 1 from by omega, ← HL.out]; exact bit_top hx)).mono ?_
  rintro e w15 ⟨rfl, rfl⟩
  go_wp2_with fail
  refine (zeros_any h1 (by omega) hT).mono ?_
  rintro e w16 ⟨zz, rfl, _, hzz, hz2, rfl⟩
  have HZ := Lib.hid (hzz hx).bit
  clear hzz
  go_wp2_with fail
  refine (bit_as 1 h1 _ (by omega) (by omega) (by rw [Int.toNat_natCast]; exact HZ.out)).mono ?_
  rintro e w17 ⟨rfl, rfl⟩
  go_wp2_with fail
  go_ret
  exact ⟨rfl, B⟩

set_option maxHeartbeats 4000000 in
set_option maxRecDepth 100000 in
theorem parts_odd {A1 : Option Addr} {n1 c1 x i : Nat} {w : World} (h1 : Arg w A1 n1 c1 x) (hi : i < 65536) (hT : Tab w) (s1 : n1 ≤ 24) (hx : x ≠ 0) (ht : x % 2 ^ (i % 800) ≠ 0) :
    Calls Tryd.prog 8 #[.slice A1 n1 c1, .int .u16 (i : Int)] w fun e w' => e = .returned (.bool true) ∧ Below w.heap.size w w' := by
  have d1 : decide (24 < (n1 : Int)) = false := decide_eq_false (by omega)
  have q1 := h1.blen
  obtain ⟨l, el⟩ : ∃ l, blen x = l := ⟨_, rfl⟩
  have l0 : 0 < l := by rw [← el]; exact (blen_pos hx).2
  have l1 : l ≤ 768 := by omega
  have lz : ((l : Int) == 0) = false := by simp; omega
  have HL := Lib.hid el
  clear el
  go_enter Tryd.func8, Tryd.ntmps8
  go_wp2_with fail
  refine (awake_any hT).mono ?_
  rintro e w1 ⟨rfl, b⟩
  have h1 := h1.on b
  have hT := hT.on b
  have B := b
  clear b
  go_wp2_with fail
  rw [show (i : Int) % 800 = ((i % 800 : Nat) : Int) from by omega]
  have hk : i % 800 < 800 := by omega
  generalize i % 800 = k at *
  refine (right_as k h1 (by omega) (by omega) hT).mono ?_
  rintro e w2 ⟨A_r, n_r, rfl, rr, l_r, b⟩
  have h1 := h1.on b
  have hT := hT.on b
  have B := Below.step B b
  clear b
  have hlost : decide (x % 2 ^ k ≠ 0) = true := by simp [ht]
  rw [hlost]
  clear hlost
  have q2 := blen_le_of (Nat.div_le_self x (2 ^ k))
  go_wp2_with fail
  refine (left_fit (rr.arg (by omega)) (by omega) k (by omega)).mono ?_
  rintro e w3 ⟨A_rl, n_rl, rfl, rl, l_rl, b⟩
  have h1 := h1.on b
  have hT := hT.on b
  have rr := rr.on b
  have B := Below.step B b
  clear b
  clear rr
  go_wp2_with fail
  refine (sub_any h1 (rl.arg (by omega)) (by omega) (by omega) (Nat.div_mul_le_self _ _)).mono ?_
  rintro e w4 ⟨A_rw_, n_rw_, rfl, rw_, l_rw_, b⟩
  have h1 := h1.on b
  have hT := hT.on b
  have rl := rl.on b
  have B := Below.step B b
  clear b
  clear rl
  have ew : x - x / 2 ^ k * 2 ^ k = x % 2 ^ k := by have := Nat.div_add_mod x (2 ^ k); rw [Nat.mul_comm] at this; omega
  rw [ew] at rw_
  clear ew
  go_wp2_with fail
  refine (of_any 1 (by omega) _).mono ?_
  rintro e w5 ⟨A_ro, n_ro, rfl, ro, l_ro, b⟩
  have h1 := h1.on b
  have hT := hT.on b
  have rw_ := rw_.on b
  have B := Below.step B b
  clear b
  go_wp2_with fail
  refine (left_fit (ro.arg (by omega)) (by omega) k (by rw [blen_one_shift k]; omega)).mono ?_
  rintro e w6 ⟨A_rk, n_rk, rfl, rk, l_rk, b⟩
  have h1 := h1.on b
  have hT := hT.on b
  have rw_ := rw_.on b
  have ro := ro.on b
  have B := Below.step B b
  clear b
  clear ro
  go_wp2_with fail
  refine (cmp_as (-1) (rw_.arg (by omega)) (rk.arg (by omega)) (by omega) (by omega) (cmpI_of_lt (by rw [Nat.one_mul]; exact Nat.mod_lt _ (Nat.two_pow_pos k)))).mono ?_
  rintro e w7 ⟨rfl, b⟩
  have h1 := h1.on b
  have hT := hT.on b
  have rw_ := rw_.on b
  have rk := rk.on b
  have B := Below.step B b
  clear b
  clear rk
  obtain ⟨lt, elt⟩ : ∃ lt, blen (x % 2 ^ k) = lt := ⟨_, rfl⟩
  have hlt : 0 < lt := by rw [← elt]; exact (blen_pos (ht)).2
  have hlt2 : lt ≤ 768 := by rw [← elt]; exact Nat.le_trans (blen_le_of (Nat.mod_le _ _)) (by omega)
  have ELT := Lib.hid elt
  clear elt
  go_wp2_with fail
  refine (len_as lt (rw_.arg (by omega)) (by omega) ELT.out).mono ?_
  rintro e w8 ⟨rfl, rfl⟩
  clear rw_
  go_wp2_with fail
  refine (of_any 1 (by omega) _).mono ?_
  rintro e w9 ⟨A_ro, n_ro, rfl, ro, l_ro, b⟩
  have h1 := h1.on b
  have hT := hT.on b
  have B := Below.step B b
  clear b
  go_wp2_with fail
  refine (len_as l h1 (by omega) HL.out).mono ?_
  rintro e w10 ⟨rfl, rfl⟩
  go_wp2_with fail
  refine (left_fit (ro.arg (by omega)) (by omega) l (by rw [blen_one_shift l]; omega)).mono ?_
  rintro e w11 ⟨A_rt, n_rt, rfl, rt, l_rt, b⟩
  have h1 := h1.on b
  have hT := hT.on b
  have ro := ro.on b
  have B := Below.step B b
  clear b
  clear ro
  go_wp2_with fail
  refine (cmp_as (-1) h1 (rt.arg (by omega)) (by omega) (by omega) (cmpI_of_lt (by rw [Nat.one_mul, ← HL.out]; exact blen_self x))).mono ?_
  rintro e w12 ⟨rfl, b⟩
  have h1 := h1.on b
  have hT := hT.on b
  have rt := rt.on b
  have B := Below.step B b
  clear b
  clear rt
  go_wp2_with fail
  refine (len_as l h1 (by omega) HL.out).mono ?_
  rintro e w13 ⟨rfl, rfl⟩
  go_wp2_with fail
  refine (len_as l h1 (by omega) HL.out).mono ?_
  rintro e w14 ⟨rfl, rfl⟩
  go_wp2_with fail
  refine (bit_as 1 h1 _ (by omega) (by omega) (by rw [show ((l : Int) - 1).toNat = l - 1 from by omega, ← HL.out]; exact bit_top hx)).mono ?_
  rintro e w15 ⟨rfl, rfl⟩
  go_wp2_with fail
  refine (zeros_any h1 (by omega) hT).mono ?_
  rintro e w16 ⟨zz, rfl, _, hzz, hz2, rfl⟩
  have HZ := Lib.hid (hzz hx).bit
  clear hzz
  go_wp2_with fail
  refine (bit_as 1 h1 _ (by omega) (by omega) (by rw [Int.toNat_natCast]; exact HZ.out)).mono ?_
  rintro e w17 ⟨rfl, rfl⟩
  go_wp2_with fail
  go_ret
  exact ⟨rfl, B⟩


set_option maxHeartbeats 1000000 in
theorem parts_walk {A1 : Option Addr} {n1 c1 x : Nat} {i : Int} {w : World} (h1 : Arg w A1 n1 c1 x) (hi : (Lit.int .u16 i).wf = true) (hT : Tab w) :
    Calls Tryd.prog 8 #[.slice A1 n1 c1, .int .u16 i] w fun e w' => e = .returned (.bool true) ∧ Below w.heap.size w w' := by
  have hb : 0 ≤ i ∧ i < 65536 := by
    simp [Lit.wf, IntKind.min, IntKind.max, IntKind.signed, IntKind.bits] at hi
    omega
  obtain ⟨k, rfl⟩ := Int.eq_ofNat_of_zero_le hb.1
  by_cases s1 : n1 ≤ 24
  · by_cases hx : x = 0
    · exact parts_zero h1 (by omega) hT s1 hx (by rw [hx, Nat.zero_mod])
    · by_cases ht : x % 2 ^ (k % 800) = 0
      · exact parts_even h1 (by omega) hT s1 hx ht
      · exact parts_odd h1 (by omega) hT s1 hx ht
  · have d1 : decide (24 < (n1 : Int)) = true := decide_eq_true (by omega)
    go_enter Tryd.func8, Tryd.ntmps8
    go_wp2_with fail
    refine (awake_any hT).mono ?_
    rintro e w1 ⟨rfl, B⟩
    go_wp2_with fail
    go_ret
    exact ⟨rfl, B⟩
end Go.Proofs.YtlkoodomcnbicaaDoor
