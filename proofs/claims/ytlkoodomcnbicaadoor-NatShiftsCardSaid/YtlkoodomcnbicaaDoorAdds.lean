/-
  The walk of the law NatAdds.
-/
import Derived.Test.YtlkoodomcnbicaaDoorReff
import Derived.Test.YtlkoodomcnbicaaDoorParts
namespace Go.Proofs.YtlkoodomcnbicaaDoor
open Go.RowKit
set_option linter.unusedVariables false

theorem rof_arg {A : Option Addr} {n c x : Nat} {w : World} (h : Arg w A n c x) (hn : n ≤ 30000) :
    Calls Tryd.prog 10 #[.slice A n c] w (BitsPost w x) := by
  obtain ⟨xs, h1, h2, h3, h4⟩ := h
  have := rof_any (c := c) h1 hn
  rwa [h4] at this

set_option maxHeartbeats 4000000 in
set_option maxRecDepth 100000 in
theorem adds_less {A1 A2 : Option Addr} {n1 c1 n2 c2 x y : Nat} {w : World} (h1 : Arg w A1 n1 c1 x) (h2 : Arg w A2 n2 c2 y) (hT : Tab w) (s1 : n1 ≤ 24) (s2 : n2 ≤ 24) (hlt : x < y) :
    Calls Tryd.prog 3 #[.slice A1 n1 c1, .slice A2 n2 c2] w fun e w' => e = .returned (.bool true) ∧ Below w.heap.size w w' := by
  have d1 : decide (24 < (n1 : Int)) = false := decide_eq_false (by omega)
  have d2 : decide (24 < (n2 : Int)) = false := decide_eq_false (by omega)
  have q1 := h1.blen
  have q2 := h2.blen
  have q3 := blen_mul x y
  have q4 := blen_add x y
  have q5 := blen_le_of (Nat.sub_le x y)
  go_enter Tryd.func3, Tryd.ntmps3
  go_wp2_with fail
  refine (awake_any hT).mono ?_
  rintro e w1 ⟨rfl, b⟩
  have h1 := h1.on b
  have h2 := h2.on b
  have hT := hT.on b
  have B := b
  clear b
  clear hT
  go_wp2_with fail
  refine (rof_arg h1 (by omega)).mono ?_
  rintro e w2 ⟨A_bx, n_bx, c_bx, rfl, bx, b⟩
  have l_bx : n_bx ≤ 20000 := by rw [bx.size]; omega
  have h1 := h1.on b
  have h2 := h2.on b
  have B := Below.step B b
  clear b
  go_wp2_with fail
  refine (rof_arg h2 (by omega)).mono ?_
  rintro e w3 ⟨A_by_, n_by_, c_by_, rfl, by_, b⟩
  have l_by_ : n_by_ ≤ 20000 := by rw [by_.size]; omega
  have h1 := h1.on b
  have h2 := h2.on b
  have bx := bx.on b
  have B := Below.step B b
  clear b
  go_wp2_with fail
  refine (sub_lt h1 h2 (by omega) (by omega) hlt).mono ?_
  rintro e w4 ⟨rfl, b⟩
  have h1 := h1.on b
  have h2 := h2.on b
  have bx := bx.on b
  have by_ := by_.on b
  have B := Below.step B b
  clear b
  go_wp2_with fail
  refine (mul_any h1 h2 (by omega) (by omega) (by omega)).mono ?_
  rintro e w5 ⟨A_rp, n_rp, rfl, rp, l_rp, b⟩
  have h1 := h1.on b
  have h2 := h2.on b
  have bx := bx.on b
  have by_ := by_.on b
  have B := Below.step B b
  clear b
  go_wp2_with fail
  refine (rcmp_any bx by_ (by omega) (by omega)).mono ?_
  rintro e w6 ⟨rfl, rfl⟩
  have hneg := cmpI_neg hlt
  go_wp2_with fail
  refine (rmul_any bx by_ (by omega) (by omega)).mono ?_
  rintro e w7 ⟨A_bp, n_bp, c_bp, rfl, bp, b⟩
  have l_bp : n_bp ≤ 20000 := by rw [bp.size]; omega
  have h1 := h1.on b
  have h2 := h2.on b
  have bx := bx.on b
  have by_ := by_.on b
  have rp := rp.on b
  have B := Below.step B b
  clear b
  go_wp2_with fail
  refine (rparts_any bp (by omega)).mono ?_
  rintro e w8 ⟨A_pp, n_pp, c_pp, rfl, pp, l_pp, b⟩
  have h1 := h1.on b
  have h2 := h2.on b
  have bx := bx.on b
  have by_ := by_.on b
  have rp := rp.on b
  have bp := bp.on b
  have B := Below.step B b
  clear b
  clear bp
  go_wp2_with fail
  refine (same_res rp pp (by omega) (by omega)).mono ?_
  rintro e w9 ⟨rfl, b⟩
  have h1 := h1.on b
  have h2 := h2.on b
  have bx := bx.on b
  have by_ := by_.on b
  have rp := rp.on b
  have pp := pp.on b
  have B := Below.step B b
  clear b
  clear rp pp
  go_wp2_with fail
  refine (add_any h1 h2 (by omega) (by omega)).mono ?_
  rintro e w10 ⟨A_ra, n_ra, rfl, ra, l_ra, b⟩
  have h1 := h1.on b
  have h2 := h2.on b
  have bx := bx.on b
  have by_ := by_.on b
  have B := Below.step B b
  clear b
  go_wp2_with fail
  refine (radd_any bx by_ (by omega) (by omega)).mono ?_
  rintro e w11 ⟨A_ba, n_ba, c_ba, rfl, ba, b⟩
  have l_ba : n_ba ≤ 20000 := by rw [ba.size]; omega
  have h1 := h1.on b
  have h2 := h2.on b
  have bx := bx.on b
  have by_ := by_.on b
  have ra := ra.on b
  have B := Below.step B b
  clear b
  go_wp2_with fail
  refine (rparts_any ba (by omega)).mono ?_
  rintro e w12 ⟨A_pa, n_pa, c_pa, rfl, pa, l_pa, b⟩
  have h1 := h1.on b
  have h2 := h2.on b
  have bx := bx.on b
  have by_ := by_.on b
  have ra := ra.on b
  have ba := ba.on b
  have B := Below.step B b
  clear b
  clear ba
  go_wp2_with fail
  refine (same_res ra pa (by omega) (by omega)).mono ?_
  rintro e w13 ⟨rfl, b⟩
  have h1 := h1.on b
  have h2 := h2.on b
  have bx := bx.on b
  have by_ := by_.on b
  have ra := ra.on b
  have pa := pa.on b
  have B := Below.step B b
  clear b
  clear ra pa
  go_wp2_with fail
  refine (cmp_as _ h1 h2 (by omega) (by omega) rfl).mono ?_
  rintro e w14 ⟨rfl, b⟩
  have h1 := h1.on b
  have h2 := h2.on b
  have bx := bx.on b
  have by_ := by_.on b
  have B := Below.step B b
  clear b
  go_wp2_with fail
  refine (rcmp_any bx by_ (by omega) (by omega)).mono ?_
  rintro e w15 ⟨rfl, rfl⟩
  go_wp2_with fail
  go_ret
  exact ⟨rfl, B⟩

set_option maxHeartbeats 4000000 in
set_option maxRecDepth 100000 in
theorem adds_more {A1 A2 : Option Addr} {n1 c1 n2 c2 x y : Nat} {w : World} (h1 : Arg w A1 n1 c1 x) (h2 : Arg w A2 n2 c2 y) (hT : Tab w) (s1 : n1 ≤ 24) (s2 : n2 ≤ 24) (hle : y ≤ x) :
    Calls Tryd.prog 3 #[.slice A1 n1 c1, .slice A2 n2 c2] w fun e w' => e = .returned (.bool true) ∧ Below w.heap.size w w' := by
  have d1 : decide (24 < (n1 : Int)) = false := decide_eq_false (by omega)
  have d2 : decide (24 < (n2 : Int)) = false := decide_eq_false (by omega)
  have q1 := h1.blen
  have q2 := h2.blen
  have q3 := blen_mul x y
  have q4 := blen_add x y
  have q5 := blen_le_of (Nat.sub_le x y)
  go_enter Tryd.func3, Tryd.ntmps3
  go_wp2_with fail
  refine (awake_any hT).mono ?_
  rintro e w1 ⟨rfl, b⟩
  have h1 := h1.on b
  have h2 := h2.on b
  have hT := hT.on b
  have B := b
  clear b
  clear hT
  go_wp2_with fail
  refine (rof_arg h1 (by omega)).mono ?_
  rintro e w2 ⟨A_bx, n_bx, c_bx, rfl, bx, b⟩
  have l_bx : n_bx ≤ 20000 := by rw [bx.size]; omega
  have h1 := h1.on b
  have h2 := h2.on b
  have B := Below.step B b
  clear b
  go_wp2_with fail
  refine (rof_arg h2 (by omega)).mono ?_
  rintro e w3 ⟨A_by_, n_by_, c_by_, rfl, by_, b⟩
  have l_by_ : n_by_ ≤ 20000 := by rw [by_.size]; omega
  have h1 := h1.on b
  have h2 := h2.on b
  have bx := bx.on b
  have B := Below.step B b
  clear b
  go_wp2_with fail
  refine (sub_any h1 h2 (by omega) (by omega) hle).mono ?_
  rintro e w4 ⟨A_rd, n_rd, rfl, rd, l_rd, b⟩
  have h1 := h1.on b
  have h2 := h2.on b
  have bx := bx.on b
  have by_ := by_.on b
  have B := Below.step B b
  clear b
  go_wp2_with fail
  refine (mul_any h1 h2 (by omega) (by omega) (by omega)).mono ?_
  rintro e w5 ⟨A_rp, n_rp, rfl, rp, l_rp, b⟩
  have h1 := h1.on b
  have h2 := h2.on b
  have bx := bx.on b
  have by_ := by_.on b
  have rd := rd.on b
  have B := Below.step B b
  clear b
  go_wp2_with fail
  refine (rcmp_any bx by_ (by omega) (by omega)).mono ?_
  rintro e w6 ⟨rfl, rfl⟩
  have hneg := cmpI_nn hle
  go_wp2_with fail
  refine (rsub_any bx by_ (by omega) (by omega) hle).mono ?_
  rintro e w7 ⟨A_bd, n_bd, c_bd, rfl, bd, b⟩
  have l_bd : n_bd ≤ 20000 := by rw [bd.size]; exact Nat.le_trans (blen_le_of (Nat.sub_le x y)) (by omega)
  have h1 := h1.on b
  have h2 := h2.on b
  have bx := bx.on b
  have by_ := by_.on b
  have rd := rd.on b
  have rp := rp.on b
  have B := Below.step B b
  clear b
  go_wp2_with fail
  refine (rparts_any bd (by omega)).mono ?_
  rintro e w8 ⟨A_pd, n_pd, c_pd, rfl, pd, l_pd, b⟩
  have h1 := h1.on b
  have h2 := h2.on b
  have bx := bx.on b
  have by_ := by_.on b
  have rd := rd.on b
  have rp := rp.on b
  have bd := bd.on b
  have B := Below.step B b
  clear b
  clear bd
  go_wp2_with fail
  refine (same_res rd pd (by omega) (by omega)).mono ?_
  rintro e w9 ⟨rfl, b⟩
  have h1 := h1.on b
  have h2 := h2.on b
  have bx := bx.on b
  have by_ := by_.on b
  have rd := rd.on b
  have rp := rp.on b
  have pd := pd.on b
  have B := Below.step B b
  clear b
  clear rd pd
  go_wp2_with fail
  refine (rmul_any bx by_ (by omega) (by omega)).mono ?_
  rintro e w10 ⟨A_bp, n_bp, c_bp, rfl, bp, b⟩
  have l_bp : n_bp ≤ 20000 := by rw [bp.size]; omega
  have h1 := h1.on b
  have h2 := h2.on b
  have bx := bx.on b
  have by_ := by_.on b
  have rp := rp.on b
  have B := Below.step B b
  clear b
  go_wp2_with fail
  refine (rparts_any bp (by omega)).mono ?_
  rintro e w11 ⟨A_pp, n_pp, c_pp, rfl, pp, l_pp, b⟩
  have h1 := h1.on b
  have h2 := h2.on b
  have bx := bx.on b
  have by_ := by_.on b
  have rp := rp.on b
  have bp := bp.on b
  have B := Below.step B b
  clear b
  clear bp
  go_wp2_with fail
  refine (same_res rp pp (by omega) (by omega)).mono ?_
  rintro e w12 ⟨rfl, b⟩
  have h1 := h1.on b
  have h2 := h2.on b
  have bx := bx.on b
  have by_ := by_.on b
  have rp := rp.on b
  have pp := pp.on b
  have B := Below.step B b
  clear b
  clear rp pp
  go_wp2_with fail
  refine (add_any h1 h2 (by omega) (by omega)).mono ?_
  rintro e w13 ⟨A_ra, n_ra, rfl, ra, l_ra, b⟩
  have h1 := h1.on b
  have h2 := h2.on b
  have bx := bx.on b
  have by_ := by_.on b
  have B := Below.step B b
  clear b
  go_wp2_with fail
  refine (radd_any bx by_ (by omega) (by omega)).mono ?_
  rintro e w14 ⟨A_ba, n_ba, c_ba, rfl, ba, b⟩
  have l_ba : n_ba ≤ 20000 := by rw [ba.size]; omega
  have h1 := h1.on b
  have h2 := h2.on b
  have bx := bx.on b
  have by_ := by_.on b
  have ra := ra.on b
  have B := Below.step B b
  clear b
  go_wp2_with fail
  refine (rparts_any ba (by omega)).mono ?_
  rintro e w15 ⟨A_pa, n_pa, c_pa, rfl, pa, l_pa, b⟩
  have h1 := h1.on b
  have h2 := h2.on b
  have bx := bx.on b
  have by_ := by_.on b
  have ra := ra.on b
  have ba := ba.on b
  have B := Below.step B b
  clear b
  clear ba
  go_wp2_with fail
  refine (same_res ra pa (by omega) (by omega)).mono ?_
  rintro e w16 ⟨rfl, b⟩
  have h1 := h1.on b
  have h2 := h2.on b
  have bx := bx.on b
  have by_ := by_.on b
  have ra := ra.on b
  have pa := pa.on b
  have B := Below.step B b
  clear b
  clear ra pa
  go_wp2_with fail
  refine (cmp_as _ h1 h2 (by omega) (by omega) rfl).mono ?_
  rintro e w17 ⟨rfl, b⟩
  have h1 := h1.on b
  have h2 := h2.on b
  have bx := bx.on b
  have by_ := by_.on b
  have B := Below.step B b
  clear b
  go_wp2_with fail
  refine (rcmp_any bx by_ (by omega) (by omega)).mono ?_
  rintro e w18 ⟨rfl, rfl⟩
  go_wp2_with fail
  go_ret
  exact ⟨rfl, B⟩


set_option maxHeartbeats 1000000 in
theorem adds_walk {A1 A2 : Option Addr} {n1 c1 n2 c2 x y : Nat} {w : World} (h1 : Arg w A1 n1 c1 x) (h2 : Arg w A2 n2 c2 y) (hT : Tab w) :
    Calls Tryd.prog 3 #[.slice A1 n1 c1, .slice A2 n2 c2] w fun e w' => e = .returned (.bool true) ∧ Below w.heap.size w w' := by
  by_cases s1 : n1 ≤ 24
  · by_cases s2 : n2 ≤ 24
    · rcases Nat.lt_or_ge x y with h | h
      · exact adds_less h1 h2 hT s1 s2 h
      · exact adds_more h1 h2 hT s1 s2 h
    · have d1 : decide (24 < (n1 : Int)) = false := decide_eq_false (by omega)
      have d2 : decide (24 < (n2 : Int)) = true := decide_eq_true (by omega)
      go_enter Tryd.func3, Tryd.ntmps3
      go_wp2_with fail
      refine (awake_any hT).mono ?_
      rintro e w1 ⟨rfl, B⟩
      go_wp2_with fail
      go_ret
      exact ⟨rfl, B⟩
  · have d1 : decide (24 < (n1 : Int)) = true := decide_eq_true (by omega)
    go_enter Tryd.func3, Tryd.ntmps3
    go_wp2_with fail
    refine (awake_any hT).mono ?_
    rintro e w1 ⟨rfl, B⟩
    go_wp2_with fail
    go_ret
    exact ⟨rfl, B⟩
end Go.Proofs.YtlkoodomcnbicaaDoor
