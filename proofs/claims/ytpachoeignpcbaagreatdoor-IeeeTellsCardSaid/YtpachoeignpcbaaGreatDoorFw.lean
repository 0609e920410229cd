
/-
  The walk of the statements' awake: calls whose answers the document fixes.
-/
import Derived.Test.YtpachoeignpcbaaGreatDoorFR
import Derived.Test.YtpachoeignpcbaaGreatDoorDj
import Derived.Test.YtpachoeignpcbaaGreatDoorLex
namespace Go.Proofs.YtpachoeignpcbaaGreatDoor
open Go.RowKit
set_option linter.unusedVariables false

theorem Frm.at {w w' : World} (h : Frm w) (hb : Below w.heap.size w w') : Frm w' := h.on hb
theorem f16 : Fm 16 11 5 1024 31 32768 (-24) := .inl ⟨rfl, rfl, rfl, rfl, rfl, rfl, rfl⟩
theorem Res.one_n {w : World} {A : Option Addr} {n : Nat} (h : Res w A n 1) : n = 1 := by
  obtain ⟨xs, h1, h2, h3⟩ := h
  have h4 : xs = [1] := canon_unique xs [1] h2 (canon1 1 (by omega) (by omega)) (by rw [h3]; rfl)
  have h5 := h1.len
  rw [h4] at h5
  exact h5.symm
theorem ev_v1 : valS 1024 31 32768 (-24) 15360 = (⟨false, 1, 0⟩, 0) := by
  unfold valS valN valP
  rw [if_pos (by decide), if_neg (by decide), if_neg (by decide), if_neg (by decide), pl_eval (decide (15360 / 32768 % 2 = 1)) 10 1 (e' := 0) (by decide) (by decide) (by decide)]
  rfl
theorem ev_v2 : valS 1024 31 32768 (-24) 1 = (⟨false, 1, -24⟩, 0) := by
  unfold valS valN valP
  rw [if_pos (by decide), if_neg (by decide), if_pos (by decide), if_pos (by decide), pl_eval (decide (1 / 32768 % 2 = 1)) 0 1 (e' := -24) (by decide) (by decide) (by decide)]
  rfl
theorem ev_v3 : valS 1024 31 32768 (-24) 31744 = (⟨false, 0, 0⟩, 1) := by
  unfold valS
  rw [if_pos (by decide), if_pos (by decide)]
theorem ev_v4 : valS 1024 31 32768 (-24) 65536 = (⟨false, 0, 0⟩, 3) := by
  unfold valS
  rw [if_neg (by decide)]
theorem ev_m2 : ofD (-2) = ⟨true, 1, 1⟩ := ev_of (-2) 1 1 rfl rfl rfl rfl
theorem ev_65536 : ofD 65536 = ⟨false, 1, 16⟩ := ev_of 65536 16 1 rfl rfl rfl rfl
theorem ev_1 : ofD 1 = ⟨false, 1, 0⟩ := ev_of 1 0 1 rfl rfl rfl rfl
theorem bl1 : blen 1 = 1 := by decide
theorem ev_put1 : putS 11 1024 31 32768 (-24) ⟨true, 1, 1⟩ = (49152, 0) := by
  unfold putS plcS
  rw [may_small (by decide) (by decide) (by decide), if_pos rfl, if_neg (by decide), pl_eval true 0 1 (e := 1) (e' := 1) (by decide) (by decide) (by decide)]
  simp only [bl1]
  rw [if_neg (by decide)]
  rfl
theorem ev_put2 : putS 11 1024 31 32768 (-24) ⟨false, 1, 16⟩ = (0, 10) := by
  unfold putS plcS
  rw [may_small (by decide) (by decide) (by decide), if_pos rfl, if_neg (by decide), pl_eval false 0 1 (e := 16) (e' := 16) (by decide) (by decide) (by decide)]
  simp only [bl1]
  rw [if_pos (by decide)]
abbrev v16 : Value := .agg #[.int .i64 16, .int .i64 11, .int .i64 5]
theorem v1 {w : World} (hT : Tab w) : Calls Tryz.prog 46 #[.agg #[.int .i64 16, .int .i64 11, .int .i64 5], .int .u64 15360] w (DPx w false 1 0 0) := value_as f16 15360 (by omega) hT ev_v1
theorem v2 {w : World} (hT : Tab w) : Calls Tryz.prog 46 #[.agg #[.int .i64 16, .int .i64 11, .int .i64 5], .int .u64 1] w (DPx w false 1 (-24) 0) := value_as f16 1 (by omega) hT ev_v2
theorem v3 {w : World} (hT : Tab w) : Calls Tryz.prog 46 #[.agg #[.int .i64 16, .int .i64 11, .int .i64 5], .int .u64 31744] w (DPx w false 0 0 1) := value_as f16 31744 (by omega) hT ev_v3
theorem v4 {w : World} (hT : Tab w) : Calls Tryz.prog 46 #[.agg #[.int .i64 16, .int .i64 11, .int .i64 5], .int .u64 65536] w (DPx w false 0 0 3) := value_as f16 65536 (by omega) hT ev_v4
theorem aw_put1 {A : Option Addr} {k c : Nat} {w : World} (h : Arg w A k c 1) (hs : k ≤ 30000) (hT : Tab w) : Calls Tryz.prog 94 #[.agg #[.int .i64 16, .int .i64 11, .int .i64 5], .agg #[.bool true, .slice A k c, .int .i64 1]] w fun en w' => en = .returned (.tuple #[.int .u64 49152, .int .i64 0]) ∧ Below w.heap.size w w' := put_as f16 h hs hT ev_put1
theorem aw_put2 {A : Option Addr} {k c : Nat} {w : World} (h : Arg w A k c 1) (hs : k ≤ 30000) (hT : Tab w) : Calls Tryz.prog 94 #[.agg #[.int .i64 16, .int .i64 11, .int .i64 5], .agg #[.bool false, .slice A k c, .int .i64 16]] w fun en w' => en = .returned (.tuple #[.int .u64 0, .int .i64 10]) ∧ Below w.heap.size w w' := put_as f16 h hs hT ev_put2
theorem aw_bias (w : World) : Calls Tryz.prog 115 #[.agg #[.int .i64 16, .int .i64 11, .int .i64 5]] w fun e w' => e = .returned (.int .i64 15) ∧ Below w.heap.size w w' := bias_as f16 15 rfl w
theorem aw_low (w : World) : Calls Tryz.prog 85 #[.agg #[.int .i64 16, .int .i64 11, .int .i64 5]] w fun e w' => e = .returned (.int .i64 (-24)) ∧ Below w.heap.size w w' := flow_as f16 (-24) rfl w
theorem aw_c1 (w : World) : Calls Tryz.prog 43 #[.agg #[.int .i64 16, .int .i64 11, .int .i64 5], .int .u64 32256] w fun e w' => e = .returned (.int .i64 4) ∧ Below w.heap.size w w' := class_as f16 32256 4 (by omega) (by decide) w
theorem aw_c2 (w : World) : Calls Tryz.prog 43 #[.agg #[.int .i64 16, .int .i64 11, .int .i64 5], .int .u64 31745] w fun e w' => e = .returned (.int .i64 5) ∧ Below w.heap.size w w' := class_as f16 31745 5 (by omega) (by decide) w
theorem aw_c3 (w : World) : Calls Tryz.prog 43 #[.agg #[.int .i64 16, .int .i64 11, .int .i64 5], .int .u64 1] w fun e w' => e = .returned (.int .i64 1) ∧ Below w.heap.size w w' := class_as f16 1 1 (by omega) (by decide) w
theorem aw_neg (w : World) : Calls Tryz.prog 47 #[.agg #[.int .i64 16, .int .i64 11, .int .i64 5], .int .u64 32768] w fun e w' => e = .returned (.bool true) ∧ Below w.heap.size w w' := fneg_as f16 32768 (by omega) true (by decide) w
theorem aw_m1 (w : World) : Calls Tryz.prog 22 #[.agg #[.int .i64 16, .int .i64 11, .int .i64 5], .int .u64 65535] w fun e w' => e = .returned (.bool true) ∧ Below w.heap.size w w' := fmay_as f16 65535 (by omega) true (by decide) w
theorem aw_m2 (w : World) : Calls Tryz.prog 22 #[.agg #[.int .i64 16, .int .i64 11, .int .i64 5], .int .u64 65536] w fun e w' => e = .returned (.bool false) ∧ Below w.heap.size w w' := fmay_as f16 65536 (by omega) false (by decide) w
theorem aw_inf (w : World) : Calls Tryz.prog 53 #[.agg #[.int .i64 16, .int .i64 11, .int .i64 5], .bool true] w fun e w' => e = .returned (.int .u64 64512) ∧ Below w.heap.size w w' := infinite_as f16 true 64512 (by decide) w
theorem aw_gr (w : World) : Calls Tryz.prog 125 #[.agg #[.int .i64 16, .int .i64 11, .int .i64 5], .bool false] w fun e w' => e = .returned (.int .u64 31743) ∧ Below w.heap.size w w' := greatest_as f16 false 31743 (by decide) w
theorem aw_no (w : World) : Calls Tryz.prog 40 #[.agg #[.int .i64 16, .int .i64 11, .int .i64 5], .bool true] w fun e w' => e = .returned (.int .u64 32768) ∧ Below w.heap.size w w' := nought_as f16 true 32768 (by decide) w
theorem aw_none (w : World) : Calls Tryz.prog 51 #[.agg #[.int .i64 16, .int .i64 11, .int .i64 5]] w fun e w' => e = .returned (.int .u64 32256) ∧ Below w.heap.size w w' := fnone_as f16 32256 (by decide) w
theorem aw_q (w : World) : Calls Tryz.prog 42 #[.agg #[.int .i64 16, .int .i64 11, .int .i64 5], .int .u64 64513] w fun e w' => e = .returned (.int .u64 65025) ∧ Below w.heap.size w w' := quieted_as f16 64513 65025 (by omega) (by decide) w
theorem Box.made_at (w : World) {s : Nat} (hs : w.heap.size = s) (t : TypeId) {a b c : Value} (ha : NotU a) (hb : NotU b) (hc : NotU c) : Box (w.alloc (.cells #[a, b, c] t)) s t a b c := hs ▸ Box.made w t ha hb hc
end Go.Proofs.YtpachoeignpcbaaGreatDoor
