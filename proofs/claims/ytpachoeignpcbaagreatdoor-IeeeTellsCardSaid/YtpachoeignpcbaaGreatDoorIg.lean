
/-
  The walk of the statements' awake (layer 5): calls whose answers the document fixes.
-/
import Derived.Test.YtpachoeignpcbaaGreatDoorIf
import Derived.Test.YtpachoeignpcbaaGreatDoorKw
import Derived.Test.YtpachoeignpcbaaGreatDoorFw
namespace Go.Proofs.YtpachoeignpcbaaGreatDoor
open Go.RowKit
set_option linter.unusedVariables false

theorem ev5_v (b : Nat) (k q : Nat) (e : Int) (s : Bool) (hb : b < 65536) (h1 : b / 1024 % 32 ≠ 31) (hs : decide (b / 32768 % 2 = 1) = s) (hq : q % 2 = 1) (hN : valN 1024 31 b = 2 ^ k * q) (he : e = valP 1024 31 (-24) b + (k : Int)) : (valS 1024 31 32768 (-24) b).1 = ⟨s, q, e⟩ := by
  unfold valS
  rw [if_pos (by omega), if_neg h1]
  show D.pl ⟨decide (b / 32768 % 2 = 1), valN 1024 31 b, valP 1024 31 (-24) b⟩ = _
  rw [hs]
  exact pl_eval s k q hN hq he
theorem bl24 : blen 16777217 = 25 := by decide
theorem ev5_a : addI 11 1024 31 32768 (-24) 0 15360 1 = (15360, 1, 0) := by
  have h1 := ev5_v 15360 10 1 0 false (by decide) (by decide) (by decide) (by decide) (by decide) (by decide)
  have h2 := ev5_v 1 0 1 (-24) false (by decide) (by decide) (by decide) (by decide) (by decide) (by decide)
  unfold addI
  rw [if_neg (by decide), if_neg (by decide)]
  unfold tmS
  rw [h1, h2]
  unfold sumT bitsS
  rw [if_neg (by decide), if_neg (by decide), if_neg (by decide), if_neg (by decide)]
  have h3 : D.add ⟨false, 1, 0⟩ ⟨false, 1, -24⟩ = ⟨false, 16777217, -24⟩ := pl_eval _ 0 16777217 (by decide) (by decide) (by decide)
  show roundS 11 1024 31 32768 (-24) 0 (D.add ⟨false, 1, 0⟩ ⟨false, 1, -24⟩) _ = _
  rw [h3]
  exact roundS_in f16 (by omega) (mayR_small (by omega) (by omega) (by omega)) (by omega) (by omega) 14 15360 15360 15360 1 (by unfold plcS; rw [bl24]; rfl) (by decide) (by decide) (by decide) (by decide) (by rw [bl24]; decide)
theorem ev5_b : mulI 11 1024 31 32768 (-24) 0 31744 32768 = (32256, 16, 0) := by
  unfold mulI
  rw [if_neg (by decide), if_neg (by decide), if_pos (by decide)]
theorem ev5_zero {mode : Int} (hm : 0 ≤ mode ∧ mode ≤ 4) (ng : Bool) (d : D) (hd : d.x = 0) (hd2 : d.may = true) : roundS 11 1024 31 32768 (-24) mode d ng = (sgn 32768 ng 0, 0, 0) :=
  roundS_zero hm (by unfold mayR; rw [hd2, decide_eq_true hd]; rfl) hd ng
theorem may0 : D.may ⟨false, 0, 0⟩ = true := may_small (by decide) (by decide) (by decide)
theorem ev5_c : subI 11 1024 31 32768 (-24) 2 15360 15360 = (32768, 0, 0) := by
  have h1 := ev5_v 15360 10 1 0 false (by decide) (by decide) (by decide) (by decide) (by decide) (by decide)
  have h2 := ev5_v 48128 10 1 0 true (by decide) (by decide) (by decide) (by decide) (by decide) (by decide)
  unfold subI
  rw [if_pos (by decide), show trnS 32768 15360 = 48128 by decide]
  unfold addI
  rw [if_neg (by decide), if_neg (by decide)]
  unfold tmS
  rw [h1, h2]
  unfold sumT bitsS
  rw [if_neg (by decide), if_neg (by decide), if_neg (by decide), if_neg (by decide)]
  have h3 : D.add ⟨false, 1, 0⟩ ⟨true, 1, 0⟩ = ⟨false, 0, 0⟩ := D.pl_zero (by decide)
  show roundS 11 1024 31 32768 (-24) 2 (D.add ⟨false, 1, 0⟩ ⟨true, 1, 0⟩) _ = _
  rw [h3, ev5_zero (by omega) _ _ rfl may0]
  rfl
theorem ev5_d : fmaI 11 1024 31 32768 (-24) 0 16384 16896 50688 = (0, 0, 0) := by
  have h1 := ev5_v 16384 10 1 1 false (by decide) (by decide) (by decide) (by decide) (by decide) (by decide)
  have h2 := ev5_v 16896 9 3 0 false (by decide) (by decide) (by decide) (by decide) (by decide) (by decide)
  have h3 := ev5_v 50688 9 3 1 true (by decide) (by decide) (by decide) (by decide) (by decide) (by decide)
  unfold fmaI
  rw [if_neg (by decide), if_neg (by decide), if_neg (by decide)]
  unfold tmS
  rw [h1, h2, h3]
  have h4 : D.mul ⟨false, 1, 1⟩ ⟨false, 3, 0⟩ = ⟨false, 3, 1⟩ := pl_eval _ 0 3 (by decide) (by decide) (by decide)
  unfold prodT
  simp only
  rw [h4]
  unfold sumT bitsS
  rw [if_neg (by decide), if_neg (by decide), if_neg (by decide), if_neg (by decide)]
  have h5 : D.add ⟨false, 3, 1⟩ ⟨true, 3, 1⟩ = ⟨false, 0, 0⟩ := D.pl_zero (by decide)
  show roundS 11 1024 31 32768 (-24) 0 (D.add ⟨false, 3, 1⟩ ⟨true, 3, 1⟩) _ = _
  rw [h5, ev5_zero (by omega) _ _ rfl may0]
  rfl
theorem ev5_n : addI 11 1024 31 32768 (-24) 0 15360 31745 = (32257, 16, 0) := by
  unfold addI
  rw [if_neg (by decide), if_pos (by decide)]
  rfl
theorem ev5_k : addI 11 1024 31 32768 (-24) 5 0 0 = (0, 0, 1) := by
  unfold addI
  rw [if_pos (by decide)]
  rfl
theorem ev5_l : mulI 11 1024 31 32768 (-24) 0 65536 0 = (0, 0, 3) := by
  unfold mulI
  rw [if_pos (by decide)]
  rfl
theorem aw5_a {w : World} (hT : Tab w) : Calls Tryz.prog 7 #[.agg #[.int .i64 16, .int .i64 11, .int .i64 5], .int .i64 0, .int .u64 15360, .int .u64 1] w fun en w' => en = .returned (.tuple #[.int .u64 15360, .int .i64 1, .int .i64 0]) ∧ Below w.heap.size w w' := add_as f16 0 15360 1 (by omega) (by omega) hT ev5_a
theorem aw5_b {w : World} (hT : Tab w) : Calls Tryz.prog 11 #[.agg #[.int .i64 16, .int .i64 11, .int .i64 5], .int .i64 0, .int .u64 31744, .int .u64 32768] w fun en w' => en = .returned (.tuple #[.int .u64 32256, .int .i64 16, .int .i64 0]) ∧ Below w.heap.size w w' := mul_as f16 0 31744 32768 (by omega) (by omega) hT ev5_b
theorem aw5_c {w : World} (hT : Tab w) : Calls Tryz.prog 9 #[.agg #[.int .i64 16, .int .i64 11, .int .i64 5], .int .i64 2, .int .u64 15360, .int .u64 15360] w fun en w' => en = .returned (.tuple #[.int .u64 32768, .int .i64 0, .int .i64 0]) ∧ Below w.heap.size w w' := sub_as f16 2 15360 15360 (by omega) (by omega) hT ev5_c
theorem aw5_d {w : World} (hT : Tab w) : Calls Tryz.prog 13 #[.agg #[.int .i64 16, .int .i64 11, .int .i64 5], .int .i64 0, .int .u64 16384, .int .u64 16896, .int .u64 50688] w fun en w' => en = .returned (.tuple #[.int .u64 0, .int .i64 0, .int .i64 0]) ∧ Below w.heap.size w w' := fma_as f16 0 16384 16896 50688 (by omega) (by omega) (by omega) hT ev5_d
theorem aw5_n {w : World} (hT : Tab w) : Calls Tryz.prog 7 #[.agg #[.int .i64 16, .int .i64 11, .int .i64 5], .int .i64 0, .int .u64 15360, .int .u64 31745] w fun en w' => en = .returned (.tuple #[.int .u64 32257, .int .i64 16, .int .i64 0]) ∧ Below w.heap.size w w' := add_as f16 0 15360 31745 (by omega) (by omega) hT ev5_n
theorem aw5_k {w : World} (hT : Tab w) : Calls Tryz.prog 7 #[.agg #[.int .i64 16, .int .i64 11, .int .i64 5], .int .i64 5, .int .u64 0, .int .u64 0] w fun en w' => en = .returned (.tuple #[.int .u64 0, .int .i64 0, .int .i64 1]) ∧ Below w.heap.size w w' := add_as f16 5 0 0 (by omega) (by omega) hT ev5_k
theorem aw5_l {w : World} (hT : Tab w) : Calls Tryz.prog 11 #[.agg #[.int .i64 16, .int .i64 11, .int .i64 5], .int .i64 0, .int .u64 65536, .int .u64 0] w fun en w' => en = .returned (.tuple #[.int .u64 0, .int .i64 0, .int .i64 3]) ∧ Below w.heap.size w w' := mul_as f16 0 65536 0 (by omega) (by omega) hT ev5_l
theorem aw5_t (w : World) : Calls Tryz.prog 15 #[.agg #[.int .i64 16, .int .i64 11, .int .i64 5], .int .u64 15360] w fun en w' => en = .returned (.int .u64 48128) ∧ Below w.heap.size w w' := turned_as f16 15360 (by omega) 48128 (by decide) w
set_option maxHeartbeats 4000000 in
set_option maxRecDepth 100000 in
theorem awake5_any {w : World} (hT : Tab w) (hF : Frm w) : Calls Tryz.prog 4 #[] w fun e w' => e = .returned (.bool true) ∧ Below w.heap.size w w' := by
  go_enter Tryz.func4, Tryz.ntmps4
  go_wp2_with fail
  refine (of_16 _ hF).mono ?_
  rintro en w1 ⟨rfl, b⟩
  replace hT := hT.on b
  replace hF := hF.on b
  have BW := b
  clear b
  go_upto_region 2 with fail
  obtain ⟨w2, e_w2⟩ : ∃ w', w1.alloc (.cells #[.int .i64 16, .int .i64 11, .int .i64 5] 25) = w' := ⟨_, rfl⟩
  have b : Below w1.heap.size w1 w2 := e_w2 ▸ below_lit _ _
  have hs_w2 : w2.heap.size = w1.heap.size + 1 := e_w2 ▸ size_lit w1 _ rfl
  have zf : FB w2 w1.heap.size 25 16 11 5 := e_w2 ▸ Box.made_at w1 rfl 25 (notU_int _) (notU_int _) (notU_int _)
  rw [e_w2]
  clear e_w2
  replace hT := hT.on b
  replace hF := hF.on b
  replace BW := Below.step BW b
  clear b
  clear hs_w2
  obtain ⟨zfc0, zfc1, zfc2, zff0, zff1, zff2, zfl⟩ := zf.cells
  go_wp2_with fail
  refine (aw5_a hT).mono ?_
  rintro en w3 ⟨rfl, b⟩
  clear zfc0 zfc1 zfc2 zff0 zff1 zff2 zfl
  replace hT := hT.on b
  replace hF := hF.on b
  replace zf := zf.on b
  replace BW := Below.step BW b
  clear b
  obtain ⟨zfc0, zfc1, zfc2, zff0, zff1, zff2, zfl⟩ := zf.cells
  go_wp2_with fail
  refine (aw5_b hT).mono ?_
  rintro en w4 ⟨rfl, b⟩
  clear zfc0 zfc1 zfc2 zff0 zff1 zff2 zfl
  replace hT := hT.on b
  replace hF := hF.on b
  replace zf := zf.on b
  replace BW := Below.step BW b
  clear b
  obtain ⟨zfc0, zfc1, zfc2, zff0, zff1, zff2, zfl⟩ := zf.cells
  go_wp2_with fail
  refine (aw5_c hT).mono ?_
  rintro en w5 ⟨rfl, b⟩
  clear zfc0 zfc1 zfc2 zff0 zff1 zff2 zfl
  replace hT := hT.on b
  replace hF := hF.on b
  replace zf := zf.on b
  replace BW := Below.step BW b
  clear b
  obtain ⟨zfc0, zfc1, zfc2, zff0, zff1, zff2, zfl⟩ := zf.cells
  go_wp2_with fail
  refine (aw5_d hT).mono ?_
  rintro en w6 ⟨rfl, b⟩
  clear zfc0 zfc1 zfc2 zff0 zff1 zff2 zfl
  replace hT := hT.on b
  replace hF := hF.on b
  replace zf := zf.on b
  replace BW := Below.step BW b
  clear b
  obtain ⟨zfc0, zfc1, zfc2, zff0, zff1, zff2, zfl⟩ := zf.cells
  go_wp2_with fail
  refine (aw5_n hT).mono ?_
  rintro en w7 ⟨rfl, b⟩
  clear zfc0 zfc1 zfc2 zff0 zff1 zff2 zfl
  replace hT := hT.on b
  replace hF := hF.on b
  replace zf := zf.on b
  replace BW := Below.step BW b
  clear b
  obtain ⟨zfc0, zfc1, zfc2, zff0, zff1, zff2, zfl⟩ := zf.cells
  go_wp2_with fail
  refine (aw5_k hT).mono ?_
  rintro en w8 ⟨rfl, b⟩
  clear zfc0 zfc1 zfc2 zff0 zff1 zff2 zfl
  replace hT := hT.on b
  replace hF := hF.on b
  replace zf := zf.on b
  replace BW := Below.step BW b
  clear b
  obtain ⟨zfc0, zfc1, zfc2, zff0, zff1, zff2, zfl⟩ := zf.cells
  go_wp2_with fail
  refine (aw5_l hT).mono ?_
  rintro en w9 ⟨rfl, b⟩
  clear zfc0 zfc1 zfc2 zff0 zff1 zff2 zfl
  replace hT := hT.on b
  replace hF := hF.on b
  replace zf := zf.on b
  replace BW := Below.step BW b
  clear b
  obtain ⟨zfc0, zfc1, zfc2, zff0, zff1, zff2, zfl⟩ := zf.cells
  go_wp2_with fail
  refine (aw5_t _).mono ?_
  rintro en w10 ⟨rfl, b⟩
  clear zfc0 zfc1 zfc2 zff0 zff1 zff2 zfl
  replace hT := hT.on b
  replace hF := hF.on b
  replace zf := zf.on b
  replace BW := Below.step BW b
  clear b
  go_wp2_with fail
  go_ret
  exact ⟨rfl, BW⟩
end Go.Proofs.YtpachoeignpcbaaGreatDoor
