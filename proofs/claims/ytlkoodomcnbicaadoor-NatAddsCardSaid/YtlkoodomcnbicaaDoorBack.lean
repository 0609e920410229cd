/-
  The walk of the law NatBack.
-/
import Derived.Test.YtlkoodomcnbicaaDoorTurned
namespace Go.Proofs.YtlkoodomcnbicaaDoor
open Go.RowKit
set_option linter.unusedVariables false

theorem right_as (k : Nat) {A : Option Addr} {n c x : Nat} {w : World} (h : Arg w A n c x) (hs : n ≤ 1000000) (hk : k ≤ 1000000) (hT : Tab w) :
    Calls Tryd.prog 31 #[.slice A n c, .int .i64 (k : Int)] w (RightPost w x k n) := by
  have := right_any h hs (k : Int) (by omega) hT
  rwa [Int.toNat_natCast] at this

set_option maxHeartbeats 4000000 in
set_option maxRecDepth 100000 in
theorem back_main {A1 A2 A3 : Option Addr} {n1 c1 n2 c2 n3 c3 x y z i : Nat} {w : World} (h1 : Arg w A1 n1 c1 x) (h2 : Arg w A2 n2 c2 y) (h3 : Arg w A3 n3 c3 z) (hi : i < 65536) (hT : Tab w) (s1 : n1 ≤ 24) (s2 : n2 ≤ 24) (s3 : n3 ≤ 24) :
    Calls Tryd.prog 6 #[.slice A1 n1 c1, .slice A2 n2 c2, .slice A3 n3 c3, .int .u16 (i : Int)] w fun e w' => e = .returned (.bool true) ∧ Below w.heap.size w w' := by
  have d1 : decide (24 < (n1 : Int)) = false := decide_eq_false (by omega)
  have d2 : decide (24 < (n2 : Int)) = false := decide_eq_false (by omega)
  have d3 : decide (24 < (n3 : Int)) = false := decide_eq_false (by omega)
  have q1 := h1.blen
  have q2 := h2.blen
  have q3 := h3.blen
  have q4 := blen_add x y
  go_enter Tryd.func6, Tryd.ntmps6
  go_wp2_with fail
  refine (awake_any hT).mono ?_
  rintro e w1 ⟨rfl, b⟩
  have h1 := h1.on b
  have h2 := h2.on b
  have h3 := h3.on b
  have hT := hT.on b
  have B := b
  clear b
  go_wp2_with fail
  refine (add_any h1 h2 (by omega) (by omega)).mono ?_
  rintro e w2 ⟨A_rs, n_rs, rfl, rs, l_rs, b⟩
  have h1 := h1.on b
  have h2 := h2.on b
  have h3 := h3.on b
  have hT := hT.on b
  have B := Below.step B b
  clear b
  go_wp2_with fail
  refine (sub_any (rs.arg (by omega)) h2 (by omega) (by omega) (by omega)).mono ?_
  rintro e w3 ⟨A_rd, n_rd, rfl, rd, l_rd, b⟩
  have h1 := h1.on b
  have h2 := h2.on b
  have h3 := h3.on b
  have hT := hT.on b
  have rs := rs.on b
  have B := Below.step B b
  clear b
  go_wp2_with fail
  refine (mul_any (rs.arg (by omega)) h3 (by omega) (by omega) (by omega)).mono ?_
  rintro e w4 ⟨A_rp, n_rp, rfl, rp, l_rp, b⟩
  have h1 := h1.on b
  have h2 := h2.on b
  have h3 := h3.on b
  have hT := hT.on b
  have rs := rs.on b
  have rd := rd.on b
  have B := Below.step B b
  clear b
  clear rs
  go_wp2_with fail
  refine (mul_any h1 h3 (by omega) (by omega) (by omega)).mono ?_
  rintro e w5 ⟨A_rq, n_rq, rfl, rq, l_rq, b⟩
  have h1 := h1.on b
  have h2 := h2.on b
  have h3 := h3.on b
  have hT := hT.on b
  have rd := rd.on b
  have rp := rp.on b
  have B := Below.step B b
  clear b
  go_wp2_with fail
  refine (mul_any h2 h3 (by omega) (by omega) (by omega)).mono ?_
  rintro e w6 ⟨A_rr, n_rr, rfl, rr, l_rr, b⟩
  have h1 := h1.on b
  have h2 := h2.on b
  have h3 := h3.on b
  have hT := hT.on b
  have rd := rd.on b
  have rp := rp.on b
  have rq := rq.on b
  have B := Below.step B b
  clear b
  by_cases hx : x = 0
  · subst hx
    go_wp2_with fail
    rw [show (i : Int) % 4000 = ((i % 4000 : Nat) : Int) from by omega]
    refine (left_none h1 _ (by omega)).mono ?_
    rintro e w7 ⟨A_l, n_l, rfl, rl, l_l, b⟩
    have h1 := h1.on b
    have h2 := h2.on b
    have h3 := h3.on b
    have hT := hT.on b
    have rd := rd.on b
    have rp := rp.on b
    have rq := rq.on b
    have rr := rr.on b
    have B := Below.step B b
    clear b
    go_wp2_with fail
    rw [show (i : Int) % 4000 = ((i % 4000 : Nat) : Int) from by omega]
    refine (right_as (i % 4000) (rl.arg (by omega)) (by omega) (by omega) hT).mono ?_
    rintro e w8 ⟨A_k, n_k, rfl, rk, l_k, b⟩
    have h1 := h1.on b
    have h2 := h2.on b
    have h3 := h3.on b
    have hT := hT.on b
    have rd := rd.on b
    have rp := rp.on b
    have rq := rq.on b
    have rr := rr.on b
    have rl := rl.on b
    have B := Below.step B b
    clear b
    have hlost : decide (0 % 2 ^ (i % 4000) ≠ 0) = false := by simp
    rw [hlost]
    clear hlost
    go_wp2_with fail
    refine (cmp_as 0 (rd.arg (by omega)) h1 (by omega) (by omega) (cmpI_of_eq (by omega))).mono ?_
    rintro e w9 ⟨rfl, b⟩
    have h1 := h1.on b
    have h2 := h2.on b
    have h3 := h3.on b
    have hT := hT.on b
    have rd := rd.on b
    have rp := rp.on b
    have rq := rq.on b
    have rr := rr.on b
    have rl := rl.on b
    have rk := rk.on b
    have B := Below.step B b
    clear b
    go_wp2_with fail
    refine (add_any (rq.arg (by omega)) (rr.arg (by omega)) (by omega) (by omega)).mono ?_
    rintro e w10 ⟨A_ra, n_ra, rfl, ra, l_ra, b⟩
    have h1 := h1.on b
    have h2 := h2.on b
    have h3 := h3.on b
    have hT := hT.on b
    have rd := rd.on b
    have rp := rp.on b
    have rq := rq.on b
    have rr := rr.on b
    have rl := rl.on b
    have rk := rk.on b
    have B := Below.step B b
    clear b
    go_wp2_with fail
    refine (cmp_as 0 (rp.arg (by omega)) (ra.arg (by omega)) (by omega) (by omega) (cmpI_of_eq (Nat.add_mul _ _ _))).mono ?_
    rintro e w11 ⟨rfl, b⟩
    have h1 := h1.on b
    have h2 := h2.on b
    have h3 := h3.on b
    have hT := hT.on b
    have rd := rd.on b
    have rp := rp.on b
    have rq := rq.on b
    have rr := rr.on b
    have rl := rl.on b
    have rk := rk.on b
    have ra := ra.on b
    have B := Below.step B b
    clear b
    go_wp2_with fail
    refine (cmp_as 0 (rk.arg (by omega)) h1 (by omega) (by omega) (cmpI_of_eq (by simp))).mono ?_
    rintro e w12 ⟨rfl, b⟩
    have h1 := h1.on b
    have h2 := h2.on b
    have h3 := h3.on b
    have hT := hT.on b
    have rd := rd.on b
    have rp := rp.on b
    have rq := rq.on b
    have rr := rr.on b
    have rl := rl.on b
    have rk := rk.on b
    have ra := ra.on b
    have B := Below.step B b
    clear b
    go_wp2_with fail
    go_ret
    exact ⟨rfl, B⟩
  · skip
    go_wp2_with fail
    rw [show (i : Int) % 4000 = ((i % 4000 : Nat) : Int) from by omega]
    refine (left_any h1 (by omega) hx (i % 4000) (by omega)).mono ?_
    rintro e w7 ⟨A_l, n_l, rfl, rl, l_l, b⟩
    have h1 := h1.on b
    have h2 := h2.on b
    have h3 := h3.on b
    have hT := hT.on b
    have rd := rd.on b
    have rp := rp.on b
    have rq := rq.on b
    have rr := rr.on b
    have B := Below.step B b
    clear b
    go_wp2_with fail
    rw [show (i : Int) % 4000 = ((i % 4000 : Nat) : Int) from by omega]
    refine (right_as (i % 4000) (rl.arg (by omega)) (by omega) (by omega) hT).mono ?_
    rintro e w8 ⟨A_k, n_k, rfl, rk, l_k, b⟩
    have h1 := h1.on b
    have h2 := h2.on b
    have h3 := h3.on b
    have hT := hT.on b
    have rd := rd.on b
    have rp := rp.on b
    have rq := rq.on b
    have rr := rr.on b
    have rl := rl.on b
    have B := Below.step B b
    clear b
    have hlost : decide (x * 2 ^ (i % 4000) % 2 ^ (i % 4000) ≠ 0) = false := by simp
    rw [hlost]
    clear hlost
    go_wp2_with fail
    refine (cmp_as 0 (rd.arg (by omega)) h1 (by omega) (by omega) (cmpI_of_eq (by omega))).mono ?_
    rintro e w9 ⟨rfl, b⟩
    have h1 := h1.on b
    have h2 := h2.on b
    have h3 := h3.on b
    have hT := hT.on b
    have rd := rd.on b
    have rp := rp.on b
    have rq := rq.on b
    have rr := rr.on b
    have rl := rl.on b
    have rk := rk.on b
    have B := Below.step B b
    clear b
    go_wp2_with fail
    refine (add_any (rq.arg (by omega)) (rr.arg (by omega)) (by omega) (by omega)).mono ?_
    rintro e w10 ⟨A_ra, n_ra, rfl, ra, l_ra, b⟩
    have h1 := h1.on b
    have h2 := h2.on b
    have h3 := h3.on b
    have hT := hT.on b
    have rd := rd.on b
    have rp := rp.on b
    have rq := rq.on b
    have rr := rr.on b
    have rl := rl.on b
    have rk := rk.on b
    have B := Below.step B b
    clear b
    go_wp2_with fail
    refine (cmp_as 0 (rp.arg (by omega)) (ra.arg (by omega)) (by omega) (by omega) (cmpI_of_eq (Nat.add_mul _ _ _))).mono ?_
    rintro e w11 ⟨rfl, b⟩
    have h1 := h1.on b
    have h2 := h2.on b
    have h3 := h3.on b
    have hT := hT.on b
    have rd := rd.on b
    have rp := rp.on b
    have rq := rq.on b
    have rr := rr.on b
    have rl := rl.on b
    have rk := rk.on b
    have ra := ra.on b
    have B := Below.step B b
    clear b
    go_wp2_with fail
    refine (cmp_as 0 (rk.arg (by omega)) h1 (by omega) (by omega) (cmpI_of_eq (by rw [Nat.mul_div_cancel _ (Nat.two_pow_pos _)]))).mono ?_
    rintro e w12 ⟨rfl, b⟩
    have h1 := h1.on b
    have h2 := h2.on b
    have h3 := h3.on b
    have hT := hT.on b
    have rd := rd.on b
    have rp := rp.on b
    have rq := rq.on b
    have rr := rr.on b
    have rl := rl.on b
    have rk := rk.on b
    have ra := ra.on b
    have B := Below.step B b
    clear b
    go_wp2_with fail
    go_ret
    exact ⟨rfl, B⟩


set_option maxHeartbeats 1000000 in
theorem back_walk {A1 A2 A3 : Option Addr} {n1 c1 n2 c2 n3 c3 x y z : Nat} {i : Int} {w : World} (h1 : Arg w A1 n1 c1 x) (h2 : Arg w A2 n2 c2 y) (h3 : Arg w A3 n3 c3 z) (hi : (Lit.int .u16 i).wf = true) (hT : Tab w) :
    Calls Tryd.prog 6 #[.slice A1 n1 c1, .slice A2 n2 c2, .slice A3 n3 c3, .int .u16 i] w fun e w' => e = .returned (.bool true) ∧ Below w.heap.size w w' := by
  have hb : 0 ≤ i ∧ i < 65536 := by
    simp [Lit.wf, IntKind.min, IntKind.max, IntKind.signed, IntKind.bits] at hi
    omega
  obtain ⟨k, rfl⟩ := Int.eq_ofNat_of_zero_le hb.1
  by_cases s1 : n1 ≤ 24
  · by_cases s2 : n2 ≤ 24
    · by_cases s3 : n3 ≤ 24
      · exact back_main h1 h2 h3 (by omega) hT s1 s2 s3
      · have d1 : decide (24 < (n1 : Int)) = false := decide_eq_false (by omega)
        have d2 : decide (24 < (n2 : Int)) = false := decide_eq_false (by omega)
        have d3 : decide (24 < (n3 : Int)) = true := decide_eq_true (by omega)
        go_enter Tryd.func6, Tryd.ntmps6
        go_wp2_with fail
        refine (awake_any hT).mono ?_
        rintro e w1 ⟨rfl, B⟩
        go_wp2_with fail
        go_ret
        exact ⟨rfl, B⟩
    · have d1 : decide (24 < (n1 : Int)) = false := decide_eq_false (by omega)
      have d2 : decide (24 < (n2 : Int)) = true := decide_eq_true (by omega)
      go_enter Tryd.func6, Tryd.ntmps6
      go_wp2_with fail
      refine (awake_any hT).mono ?_
      rintro e w1 ⟨rfl, B⟩
      go_wp2_with fail
      go_ret
      exact ⟨rfl, B⟩
  · have d1 : decide (24 < (n1 : Int)) = true := decide_eq_true (by omega)
    go_enter Tryd.func6, Tryd.ntmps6
    go_wp2_with fail
    refine (awake_any hT).mono ?_
    rintro e w1 ⟨rfl, B⟩
    go_wp2_with fail
    go_ret
    exact ⟨rfl, B⟩
end Go.Proofs.YtlkoodomcnbicaaDoor
