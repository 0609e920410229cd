/-
  The walk of the law NatTurned.
-/
import Derived.Test.YtlkoodomcnbicaaDoorAwake
namespace Go.Proofs.YtlkoodomcnbicaaDoor
open Go.RowKit
set_option linter.unusedVariables false

theorem Arg.blen {w : World} {A : Option Addr} {n c x : Nat} (h : Arg w A n c x) : blen x ≤ 32 * n := by
  obtain ⟨xs, h1, h2, h3, h4⟩ := h
  rw [blen_le, ← pw_two, ← h4, ← h1.len]
  exact val_lt xs h1.2
theorem blen_self (x : Nat) : x < 2 ^ blen x := (blen_le x (blen x)).1 (Nat.le_refl _)
theorem blen_mul (x y : Nat) : blen (x * y) ≤ blen x + blen y := by
  rw [blen_le, Nat.pow_add]
  exact Nat.mul_lt_mul'' (blen_self x) (blen_self y)
theorem blen_add (x y : Nat) : blen (x + y) ≤ blen x + blen y + 1 := by
  rw [blen_le, Nat.pow_succ]
  have h1 : x < 2 ^ (blen x + blen y) := Nat.lt_of_lt_of_le (blen_self x) (Nat.pow_le_pow_right (by omega) (by omega))
  have h2 : y < 2 ^ (blen x + blen y) := Nat.lt_of_lt_of_le (blen_self y) (Nat.pow_le_pow_right (by omega) (by omega))
  omega
theorem Arg.n_le {w : World} {A : Option Addr} {n c x : Nat} (h : Arg w A n c x) : n ≤ 9223372036854775807 := by
  obtain ⟨xs, h1, h2, h3, h4⟩ := h
  unfold maxLen at h3
  omega

set_option maxHeartbeats 4000000 in
set_option maxRecDepth 100000 in
theorem turned_main {A1 A2 A3 : Option Addr} {n1 c1 n2 c2 n3 c3 x y z : Nat} {w : World} (h1 : Arg w A1 n1 c1 x) (h2 : Arg w A2 n2 c2 y) (h3 : Arg w A3 n3 c3 z) (hT : Tab w) (s1 : n1 ≤ 24) (s2 : n2 ≤ 24) (s3 : n3 ≤ 24) :
    Calls Tryd.prog 7 #[.slice A1 n1 c1, .slice A2 n2 c2, .slice A3 n3 c3] w fun e w' => e = .returned (.bool true) ∧ Below w.heap.size w w' := by
  have d1 : decide (24 < (n1 : Int)) = false := decide_eq_false (by omega)
  have d2 : decide (24 < (n2 : Int)) = false := decide_eq_false (by omega)
  have d3 : decide (24 < (n3 : Int)) = false := decide_eq_false (by omega)
  have q1 := h1.blen
  have q2 := h2.blen
  have q3 := h3.blen
  have q4 := blen_mul x y
  have q5 := blen_mul y z
  go_enter Tryd.func7, Tryd.ntmps7
  go_wp2_with fail
  refine (awake_any hT).mono ?_
  rintro e w1 ⟨rfl, B⟩
  have h1 := h1.on B
  have h2 := h2.on B
  have h3 := h3.on B
  clear hT
  go_wp2_with fail
  refine (mul_any h1 h2 (by omega) (by omega) (by omega)).mono ?_
  rintro e w2 ⟨Ax, nx, rfl, rx, lx, b⟩
  have h1 := h1.on b
  have h2 := h2.on b
  have h3 := h3.on b
  have B := Below.step B b
  clear b
  go_wp2_with fail
  refine (mul_any h2 h1 (by omega) (by omega) (by omega)).mono ?_
  rintro e w3 ⟨Ay, ny, rfl, ry, ly, b⟩
  have h1 := h1.on b
  have h2 := h2.on b
  have h3 := h3.on b
  have rx := rx.on b
  have B := Below.step B b
  clear b
  go_wp2_with fail
  refine (mul_any (rx.arg (by omega)) h3 (by omega) (by omega) (by omega)).mono ?_
  rintro e w4 ⟨Au, nu, rfl, ru, lu, b⟩
  have h1 := h1.on b
  have h2 := h2.on b
  have h3 := h3.on b
  have rx := rx.on b
  have ry := ry.on b
  have B := Below.step B b
  clear b
  go_wp2_with fail
  refine (mul_any h2 h3 (by omega) (by omega) (by omega)).mono ?_
  rintro e w5 ⟨Av, nv, rfl, rv, lv, b⟩
  have h1 := h1.on b
  have h2 := h2.on b
  have h3 := h3.on b
  have rx := rx.on b
  have ry := ry.on b
  have ru := ru.on b
  have B := Below.step B b
  clear b
  go_wp2_with fail
  refine (mul_any h1 (rv.arg (by omega)) (by omega) (by omega) (by omega)).mono ?_
  rintro e w6 ⟨Aw, nw, rfl, rw_, lw, b⟩
  have h1 := h1.on b
  have h2 := h2.on b
  have h3 := h3.on b
  have rx := rx.on b
  have ry := ry.on b
  have ru := ru.on b
  have B := Below.step B b
  clear b rv
  go_wp2_with fail
  refine (cmp_as 0 (rx.arg (by omega)) (ry.arg (by omega)) (by omega) (by omega) (cmpI_of_eq (Nat.mul_comm _ _))).mono ?_
  rintro e w7 ⟨rfl, b⟩
  have h1 := h1.on b
  have h2 := h2.on b
  have h3 := h3.on b
  have ru := ru.on b
  have rw_ := rw_.on b
  have B := Below.step B b
  clear b rx ry
  go_wp2_with fail
  refine (cmp_as 0 (ru.arg (by omega)) (rw_.arg (by omega)) (by omega) (by omega) (cmpI_of_eq (Nat.mul_assoc _ _ _))).mono ?_
  rintro e w8 ⟨rfl, b⟩
  have h1 := h1.on b
  have h2 := h2.on b
  have h3 := h3.on b
  have B := Below.step B b
  clear b ru rw_
  go_wp2_with fail
  refine (add_any h1 h2 (by omega) (by omega)).mono ?_
  rintro e w9 ⟨Aa, na, rfl, ra, la, b⟩
  have h1 := h1.on b
  have h2 := h2.on b
  have h3 := h3.on b
  have B := Below.step B b
  clear b
  go_wp2_with fail
  refine (add_any h2 h1 (by omega) (by omega)).mono ?_
  rintro e w10 ⟨Ab, nb, rfl, rb, lb, b⟩
  have h1 := h1.on b
  have h2 := h2.on b
  have h3 := h3.on b
  have ra := ra.on b
  have B := Below.step B b
  clear b
  go_wp2_with fail
  refine (cmp_as 0 (ra.arg (by omega)) (rb.arg (by omega)) (by omega) (by omega) (cmpI_of_eq (Nat.add_comm _ _))).mono ?_
  rintro e w11 ⟨rfl, b⟩
  have h1 := h1.on b
  have h2 := h2.on b
  have h3 := h3.on b
  have B := Below.step B b
  clear b ra rb
  go_wp2_with fail
  refine (add_any h1 h2 (by omega) (by omega)).mono ?_
  rintro e w12 ⟨Aa, na, rfl, ra, la, b⟩
  have h1 := h1.on b
  have h2 := h2.on b
  have h3 := h3.on b
  have B := Below.step B b
  clear b
  go_wp2_with fail
  refine (add_any (ra.arg (by omega)) h3 (by omega) (by omega)).mono ?_
  rintro e w13 ⟨Ac, nc, rfl, rc, lc, b⟩
  have h1 := h1.on b
  have h2 := h2.on b
  have h3 := h3.on b
  have B := Below.step B b
  clear b ra
  go_wp2_with fail
  refine (add_any h2 h3 (by omega) (by omega)).mono ?_
  rintro e w14 ⟨Ab, nb, rfl, rb, lb, b⟩
  have h1 := h1.on b
  have rc := rc.on b
  have B := Below.step B b
  clear b
  go_wp2_with fail
  refine (add_any h1 (rb.arg (by omega)) (by omega) (by omega)).mono ?_
  rintro e w15 ⟨Ae, ne, rfl, re, le, b⟩
  have rc := rc.on b
  have B := Below.step B b
  clear b rb
  go_wp2_with fail
  refine (cmp_as 0 (rc.arg (by omega)) (re.arg (by omega)) (by omega) (by omega) (cmpI_of_eq (Nat.add_assoc _ _ _))).mono ?_
  rintro e w16 ⟨rfl, b⟩
  have B := Below.step B b
  clear b rc re
  go_wp2_with fail
  go_ret
  exact ⟨rfl, B⟩

set_option maxHeartbeats 1000000 in
theorem turned_walk {A1 A2 A3 : Option Addr} {n1 c1 n2 c2 n3 c3 x y z : Nat} {w : World} (h1 : Arg w A1 n1 c1 x) (h2 : Arg w A2 n2 c2 y) (h3 : Arg w A3 n3 c3 z) (hT : Tab w) :
    Calls Tryd.prog 7 #[.slice A1 n1 c1, .slice A2 n2 c2, .slice A3 n3 c3] w fun e w' => e = .returned (.bool true) ∧ Below w.heap.size w w' := by
  by_cases s1 : n1 ≤ 24
  · by_cases s2 : n2 ≤ 24
    · by_cases s3 : n3 ≤ 24
      · exact turned_main h1 h2 h3 hT s1 s2 s3
      · have d1 : decide (24 < (n1 : Int)) = false := decide_eq_false (by omega)
        have d2 : decide (24 < (n2 : Int)) = false := decide_eq_false (by omega)
        have d3 : decide (24 < (n3 : Int)) = true := decide_eq_true (by omega)
        go_enter Tryd.func7, Tryd.ntmps7
        go_wp2_with fail
        refine (awake_any hT).mono ?_
        rintro e w1 ⟨rfl, B⟩
        go_wp2_with fail
        go_ret
        exact ⟨rfl, B⟩
    · have d1 : decide (24 < (n1 : Int)) = false := decide_eq_false (by omega)
      have d2 : decide (24 < (n2 : Int)) = true := decide_eq_true (by omega)
      go_enter Tryd.func7, Tryd.ntmps7
      go_wp2_with fail
      refine (awake_any hT).mono ?_
      rintro e w1 ⟨rfl, B⟩
      go_wp2_with fail
      go_ret
      exact ⟨rfl, B⟩
  · have d1 : decide (24 < (n1 : Int)) = true := decide_eq_true (by omega)
    go_enter Tryd.func7, Tryd.ntmps7
    go_wp2_with fail
    refine (awake_any hT).mono ?_
    rintro e w1 ⟨rfl, B⟩
    go_wp2_with fail
    go_ret
    exact ⟨rfl, B⟩
end Go.Proofs.YtlkoodomcnbicaaDoor
