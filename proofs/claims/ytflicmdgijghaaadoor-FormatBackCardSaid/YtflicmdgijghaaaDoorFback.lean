
/-
  The walk of the law FormatBack.
-/
import Derived.Test.YtflicmdgijghaaaDoorFw
import Derived.Test.YtflicmdgijghaaaDoorFval
import Derived.Test.YtflicmdgijghaaaDoorFopen
namespace Go.Proofs.YtflicmdgijghaaaDoor
open Go.RowKit
set_option linter.unusedVariables false

theorem cls_zero {M E n : Nat} (hE : n / M % (E + 1) ≠ E) (h : clsS M E n = 0) : valN M E n = 0 := by
  by_cases h0 : n / M % (E + 1) = 0
  · unfold clsS at h
    unfold valN
    rw [if_pos h0] at h ⊢
    split at h
    · assumption
    · cases h
  · rw [cls_norm h0 hE] at h
    cases h
theorem back_bad (bits : Int) (b : Int) (h1 : bits ≠ 16) (h2 : bits ≠ 32) (h3 : bits ≠ 64) {w : World} (hT : Tab w) (hF : Frm w) :
    Calls Tryd.prog 5 #[.int .i64 bits, .int .u64 b] w fun e w' => e = .returned (.bool true) ∧ Below w.heap.size w w' := by
  have d1 : (bits != 16) = true := by simpa using h1
  have d2 : (bits != 32) = true := by simpa using h2
  have d3 : (bits != 64) = true := by simpa using h3
  go_enter Tryd.func5, Tryd.ntmps5
  go_wp2_with fail
  refine (awake3_any hT hF).mono ?_
  rintro en w1 ⟨rfl, b⟩
  replace hT := hT.on b
  replace hF := hF.on b
  have BW := b
  clear b
  go_wp2_with fail
  refine (of_bad bits h1 h2 h3 _ hF).mono ?_
  rintro en w2 ⟨rfl, b⟩
  replace hT := hT.on b
  replace hF := hF.on b
  replace BW := Below.step BW b
  clear b
  go_wp2_with fail
  go_ret
  exact ⟨rfl, Below.step BW (below_lit _ _)⟩
set_option maxHeartbeats 1000000 in
theorem back_arg_w {B P W M E H : Nat} {low : Int} (hf : Fm B P W M E H low) (b n : Nat) (hb : b < 18446744073709551616) (hbn : b = n) (h64 : B = 64) (hE : n / M % (E + 1) = E) {w : World} (hT : Tab w) (hF : Frm w) :
    Calls Tryd.prog 5 #[.int .i64 (B : Int), .int .u64 (b : Int)] w fun e w' => e = .returned (.bool true) ∧ Below w.heap.size w w' := by
  subst hbn
  have hn := hb
  have hn2 : b < 2 * H := by rw [← hf.pB2, h64]; exact hb
  obtain ⟨v, hv⟩ : ∃ v, clsS M E b = v := ⟨_, rfl⟩
  have HC := Lib.hid hv
  have HV : Hid (valS M E H low b = (⟨false, 0, 0⟩, 1)) := by unfold valS; rw [if_pos hn2, if_pos hE]; exact Lib.hid rfl
  have d1 : decide (3 ≤ v) = true := decide_eq_true (by rcases cls_inf hE (by have := hf.bd; omega) with h | h | h <;> omega)
  clear hv hE
  have dB : decide ((B : Int) < 64) = false := decide_eq_false (by omega)
  clear h64 hn2
  go_enter Tryd.func5, Tryd.ntmps5
  go_wp2_with fail
  refine (awake3_any hT hF).mono ?_
  rintro en w1 ⟨rfl, b⟩
  replace hT := hT.on b
  replace hF := hF.on b
  have BW := b
  clear b
  go_wp2_with fail
  refine (of_fm hf _ hF).mono ?_
  rintro en w2 ⟨rfl, b⟩
  replace hT := hT.on b
  replace hF := hF.on b
  replace BW := Below.step BW b
  clear b
  go_wp2_with fail
  obtain ⟨w3, e_w3⟩ : ∃ w', w2.alloc (.cells #[.int .i64 (B : Int), .int .i64 (P : Int), .int .i64 (W : Int)] 25) = w' := ⟨_, rfl⟩
  have b : Below w2.heap.size w2 w3 := e_w3 ▸ below_lit _ _
  have hs_w3 : w3.heap.size = w2.heap.size + 1 := e_w3 ▸ size_lit w2 _ rfl
  have zf : FB w3 w2.heap.size 25 (B : Int) (P : Int) (W : Int) := e_w3 ▸ Box.made_at w2 rfl 25 (notU_int _) (notU_int _) (notU_int _)
  rw [e_w3]
  clear e_w3
  replace hT := hT.on b
  replace hF := hF.on b
  replace BW := Below.step BW b
  clear b
  refine (value_as hf b hn hT HV.out).mono ?_
  rintro en w4 ⟨V_rv, v_rv, rfl, rv, b⟩
  replace hT := hT.on b
  replace hF := hF.on b
  replace zf := zf.on b
  replace BW := Below.step BW b
  clear b
  obtain rfl : v_rv = 0 := rv.zero_n
  obtain ⟨zfc0, zfc1, zfc2, zff0, zff1, zff2, zfl⟩ := zf.cells
  go_wp2_with fail
  clear zfc0 zfc1 zfc2 zff0 zff1 zff2 zfl
  obtain ⟨w5, e_w5⟩ : ∃ w', w4.alloc (dob false V_rv 0 0 0 37) = w' := ⟨_, rfl⟩
  have b : Below w4.heap.size w4 w5 := e_w5 ▸ below_lit _ _
  have hs_w5 : w5.heap.size = w4.heap.size + 1 := e_w5 ▸ size_lit w4 _ rfl
  have zv : DB w5 w4.heap.size 37 false V_rv 0 0 0 := e_w5 ▸ DB.made w4 rfl 37 false V_rv 0 0 0
  rw [e_w5]
  clear e_w5
  replace hT := hT.on b
  replace hF := hF.on b
  replace zf := zf.on b
  replace rv := rv.on b
  replace BW := Below.step BW b
  clear b
  refine (class_as hf b v hn HC.out _).mono ?_
  rintro en w6 ⟨rfl, b⟩
  replace hT := hT.on b
  replace hF := hF.on b
  replace zf := zf.on b
  replace rv := rv.on b
  replace zv := zv.on b
  replace BW := Below.step BW b
  clear b
  obtain ⟨zfc0, zfc1, zfc2, zff0, zff1, zff2, zfl⟩ := zf.cells
  obtain ⟨zvc0, zvc1, zvc2, zvf0, zvf1, zvf2, zvl⟩ := zv.cells
  go_wp2_with fail
  go_ret
  exact ⟨rfl, BW⟩
set_option maxHeartbeats 1000000 in
theorem back_arg_n {B P W M E H : Nat} {low : Int} (hf : Fm B P W M E H low) (b n : Nat) (hb : b < 18446744073709551616) (hbn : b % (2 * H) = n) (h64 : B < 64) (hE : n / M % (E + 1) = E) {w : World} (hT : Tab w) (hF : Frm w) :
    Calls Tryd.prog 5 #[.int .i64 (B : Int), .int .u64 (b : Int)] w fun e w' => e = .returned (.bool true) ∧ Below w.heap.size w w' := by
  have hH := hf.bd
  have hn2 : n < 2 * H := by rw [← hbn]; exact Nat.mod_lt _ (by omega)
  have hn : n < 18446744073709551616 := by have := Nat.mod_le b (2 * H); omega
  obtain ⟨v, hv⟩ : ∃ v, clsS M E n = v := ⟨_, rfl⟩
  have HC := Lib.hid hv
  have HV : Hid (valS M E H low n = (⟨false, 0, 0⟩, 1)) := by unfold valS; rw [if_pos hn2, if_pos hE]; exact Lib.hid rfl
  have d1 : decide (3 ≤ v) = true := decide_eq_true (by rcases cls_inf hE (by have := hf.bd; omega) with h | h | h <;> omega)
  clear hv hE
  have dB : decide ((B : Int) < 64) = true := decide_eq_true (by omega)
  have q0 : 0 ≤ (B : Int) := by omega
  obtain ⟨G, hG⟩ : ∃ G, 2 * H = G := ⟨_, rfl⟩
  have hG0 : 0 < G := by omega
  have q1 : IntKind.u64.wrap (2 ^ B) = (G : Int) := by rw [← two_cast, hf.pB2, hG]; exact wrap64_nat _ (by
    have h1 : 2 ^ B ≤ 2 ^ 63 := Nat.pow_le_pow_right (by omega) (by omega)
    rw [hf.pB2] at h1
    omega)
  have q2 : (b : Int) % (G : Int) = (n : Int) := by rw [← Int.natCast_emod, ← hG, hbn]
  have q3 : (b : Int).tmod (G : Int) = (n : Int) := by rw [Int.tmod_eq_emod_of_nonneg (by omega)]; exact q2
  clear hG
  clear hn2 hbn hH
  go_enter Tryd.func5, Tryd.ntmps5
  go_wp2_with fail
  refine (awake3_any hT hF).mono ?_
  rintro en w1 ⟨rfl, b⟩
  replace hT := hT.on b
  replace hF := hF.on b
  have BW := b
  clear b
  go_wp2_with fail
  refine (of_fm hf _ hF).mono ?_
  rintro en w2 ⟨rfl, b⟩
  replace hT := hT.on b
  replace hF := hF.on b
  replace BW := Below.step BW b
  clear b
  go_wp2_with fail
  obtain ⟨w3, e_w3⟩ : ∃ w', w2.alloc (.cells #[.int .i64 (B : Int), .int .i64 (P : Int), .int .i64 (W : Int)] 25) = w' := ⟨_, rfl⟩
  have b : Below w2.heap.size w2 w3 := e_w3 ▸ below_lit _ _
  have hs_w3 : w3.heap.size = w2.heap.size + 1 := e_w3 ▸ size_lit w2 _ rfl
  have zf : FB w3 w2.heap.size 25 (B : Int) (P : Int) (W : Int) := e_w3 ▸ Box.made_at w2 rfl 25 (notU_int _) (notU_int _) (notU_int _)
  rw [e_w3]
  clear e_w3
  replace hT := hT.on b
  replace hF := hF.on b
  replace BW := Below.step BW b
  clear b
  refine (value_as hf n hn hT HV.out).mono ?_
  rintro en w4 ⟨V_rv, v_rv, rfl, rv, b⟩
  replace hT := hT.on b
  replace hF := hF.on b
  replace zf := zf.on b
  replace BW := Below.step BW b
  clear b
  obtain rfl : v_rv = 0 := rv.zero_n
  obtain ⟨zfc0, zfc1, zfc2, zff0, zff1, zff2, zfl⟩ := zf.cells
  go_wp2_with fail
  clear zfc0 zfc1 zfc2 zff0 zff1 zff2 zfl
  obtain ⟨w5, e_w5⟩ : ∃ w', w4.alloc (dob false V_rv 0 0 0 37) = w' := ⟨_, rfl⟩
  have b : Below w4.heap.size w4 w5 := e_w5 ▸ below_lit _ _
  have hs_w5 : w5.heap.size = w4.heap.size + 1 := e_w5 ▸ size_lit w4 _ rfl
  have zv : DB w5 w4.heap.size 37 false V_rv 0 0 0 := e_w5 ▸ DB.made w4 rfl 37 false V_rv 0 0 0
  rw [e_w5]
  clear e_w5
  replace hT := hT.on b
  replace hF := hF.on b
  replace zf := zf.on b
  replace rv := rv.on b
  replace BW := Below.step BW b
  clear b
  refine (class_as hf n v hn HC.out _).mono ?_
  rintro en w6 ⟨rfl, b⟩
  replace hT := hT.on b
  replace hF := hF.on b
  replace zf := zf.on b
  replace rv := rv.on b
  replace zv := zv.on b
  replace BW := Below.step BW b
  clear b
  obtain ⟨zfc0, zfc1, zfc2, zff0, zff1, zff2, zfl⟩ := zf.cells
  obtain ⟨zvc0, zvc1, zvc2, zvf0, zvf1, zvf2, zvl⟩ := zv.cells
  go_wp2_with fail
  go_ret
  exact ⟨rfl, BW⟩
set_option maxHeartbeats 1000000 in
theorem back_zero_w {B P W M E H : Nat} {low : Int} (hf : Fm B P W M E H low) (b n : Nat) (hb : b < 18446744073709551616) (hbn : b = n) (h64 : B = 64) (hE : n / M % (E + 1) ≠ E) (h0 : valN M E n = 0) {w : World} (hT : Tab w) (hF : Frm w) :
    Calls Tryd.prog 5 #[.int .i64 (B : Int), .int .u64 (b : Int)] w fun e w' => e = .returned (.bool true) ∧ Below w.heap.size w w' := by
  subst hbn
  have hn := hb
  have hn2 : b < 2 * H := by rw [← hf.pB2, h64]; exact hb
  have HC : Hid (clsS M E b = 0) := by
    have hM := hf.bd
    unfold valN at h0
    unfold clsS
    split at h0
    · rename_i h1
      rw [if_pos h1, if_pos h0]; exact Lib.hid rfl
    · omega
  have HV : Hid (valS M E H low b = (⟨false, 0, 0⟩, 0)) := by unfold valS; rw [if_pos hn2, if_neg hE, D.pl_zero h0]; exact Lib.hid rfl
  have HP : Hid (putS P M E H low ⟨false, 0, 0⟩ = (0, 0)) := by
    unfold putS
    rw [(D.may_iff _).2 ⟨by show blen 0 ≤ 4096; rw [blen_zero]; omega, by show (-8192 : Int) ≤ 0; omega, by show (0 : Int) ≤ 8192; omega⟩, if_pos rfl, if_pos rfl]
    exact Lib.hid rfl
  clear hE h0
  have dB : decide ((B : Int) < 64) = false := decide_eq_false (by omega)
  clear h64 hn2
  go_enter Tryd.func5, Tryd.ntmps5
  go_wp2_with fail
  refine (awake3_any hT hF).mono ?_
  rintro en w1 ⟨rfl, b⟩
  replace hT := hT.on b
  replace hF := hF.on b
  have BW := b
  clear b
  go_wp2_with fail
  refine (of_fm hf _ hF).mono ?_
  rintro en w2 ⟨rfl, b⟩
  replace hT := hT.on b
  replace hF := hF.on b
  replace BW := Below.step BW b
  clear b
  go_wp2_with fail
  obtain ⟨w3, e_w3⟩ : ∃ w', w2.alloc (.cells #[.int .i64 (B : Int), .int .i64 (P : Int), .int .i64 (W : Int)] 25) = w' := ⟨_, rfl⟩
  have b : Below w2.heap.size w2 w3 := e_w3 ▸ below_lit _ _
  have hs_w3 : w3.heap.size = w2.heap.size + 1 := e_w3 ▸ size_lit w2 _ rfl
  have zf : FB w3 w2.heap.size 25 (B : Int) (P : Int) (W : Int) := e_w3 ▸ Box.made_at w2 rfl 25 (notU_int _) (notU_int _) (notU_int _)
  rw [e_w3]
  clear e_w3
  replace hT := hT.on b
  replace hF := hF.on b
  replace BW := Below.step BW b
  clear b
  refine (value_as hf b hn hT HV.out).mono ?_
  rintro en w4 ⟨V_rv, v_rv, rfl, rv, b⟩
  replace hT := hT.on b
  replace hF := hF.on b
  replace zf := zf.on b
  replace BW := Below.step BW b
  clear b
  obtain rfl : v_rv = 0 := rv.zero_n
  obtain ⟨zfc0, zfc1, zfc2, zff0, zff1, zff2, zfl⟩ := zf.cells
  go_wp2_with fail
  clear zfc0 zfc1 zfc2 zff0 zff1 zff2 zfl
  obtain ⟨w5, e_w5⟩ : ∃ w', w4.alloc (dob false V_rv 0 0 0 37) = w' := ⟨_, rfl⟩
  have b : Below w4.heap.size w4 w5 := e_w5 ▸ below_lit _ _
  have hs_w5 : w5.heap.size = w4.heap.size + 1 := e_w5 ▸ size_lit w4 _ rfl
  have zv : DB w5 w4.heap.size 37 false V_rv 0 0 0 := e_w5 ▸ DB.made w4 rfl 37 false V_rv 0 0 0
  rw [e_w5]
  clear e_w5
  replace hT := hT.on b
  replace hF := hF.on b
  replace zf := zf.on b
  replace rv := rv.on b
  replace BW := Below.step BW b
  clear b
  refine (put_as hf (rv.arg (by omega)) (by omega) hT HP.out).mono ?_
  rintro en w6 ⟨rfl, b⟩
  replace hT := hT.on b
  replace hF := hF.on b
  replace zf := zf.on b
  replace rv := rv.on b
  replace zv := zv.on b
  replace BW := Below.step BW b
  clear b
  obtain ⟨zfc0, zfc1, zfc2, zff0, zff1, zff2, zfl⟩ := zf.cells
  obtain ⟨zvc0, zvc1, zvc2, zvf0, zvf1, zvf2, zvl⟩ := zv.cells
  go_wp2_with fail
  refine (class_as hf b 0 hn HC.out _).mono ?_
  rintro en w7 ⟨rfl, b⟩
  clear zfc0 zfc1 zfc2 zff0 zff1 zff2 zfl zvc0 zvc1 zvc2 zvf0 zvf1 zvf2 zvl
  replace hT := hT.on b
  replace hF := hF.on b
  replace zf := zf.on b
  replace rv := rv.on b
  replace zv := zv.on b
  replace BW := Below.step BW b
  clear b
  obtain ⟨zfc0, zfc1, zfc2, zff0, zff1, zff2, zfl⟩ := zf.cells
  obtain ⟨zvc0, zvc1, zvc2, zvf0, zvf1, zvf2, zvl⟩ := zv.cells
  go_wp2_with fail
  go_ret
  exact ⟨rfl, BW⟩
set_option maxHeartbeats 1000000 in
theorem back_zero_n {B P W M E H : Nat} {low : Int} (hf : Fm B P W M E H low) (b n : Nat) (hb : b < 18446744073709551616) (hbn : b % (2 * H) = n) (h64 : B < 64) (hE : n / M % (E + 1) ≠ E) (h0 : valN M E n = 0) {w : World} (hT : Tab w) (hF : Frm w) :
    Calls Tryd.prog 5 #[.int .i64 (B : Int), .int .u64 (b : Int)] w fun e w' => e = .returned (.bool true) ∧ Below w.heap.size w w' := by
  have hH := hf.bd
  have hn2 : n < 2 * H := by rw [← hbn]; exact Nat.mod_lt _ (by omega)
  have hn : n < 18446744073709551616 := by have := Nat.mod_le b (2 * H); omega
  have HC : Hid (clsS M E n = 0) := by
    have hM := hf.bd
    unfold valN at h0
    unfold clsS
    split at h0
    · rename_i h1
      rw [if_pos h1, if_pos h0]; exact Lib.hid rfl
    · omega
  have HV : Hid (valS M E H low n = (⟨false, 0, 0⟩, 0)) := by unfold valS; rw [if_pos hn2, if_neg hE, D.pl_zero h0]; exact Lib.hid rfl
  have HP : Hid (putS P M E H low ⟨false, 0, 0⟩ = (0, 0)) := by
    unfold putS
    rw [(D.may_iff _).2 ⟨by show blen 0 ≤ 4096; rw [blen_zero]; omega, by show (-8192 : Int) ≤ 0; omega, by show (0 : Int) ≤ 8192; omega⟩, if_pos rfl, if_pos rfl]
    exact Lib.hid rfl
  clear hE h0
  have dB : decide ((B : Int) < 64) = true := decide_eq_true (by omega)
  have q0 : 0 ≤ (B : Int) := by omega
  obtain ⟨G, hG⟩ : ∃ G, 2 * H = G := ⟨_, rfl⟩
  have hG0 : 0 < G := by omega
  have q1 : IntKind.u64.wrap (2 ^ B) = (G : Int) := by rw [← two_cast, hf.pB2, hG]; exact wrap64_nat _ (by
    have h1 : 2 ^ B ≤ 2 ^ 63 := Nat.pow_le_pow_right (by omega) (by omega)
    rw [hf.pB2] at h1
    omega)
  have q2 : (b : Int) % (G : Int) = (n : Int) := by rw [← Int.natCast_emod, ← hG, hbn]
  have q3 : (b : Int).tmod (G : Int) = (n : Int) := by rw [Int.tmod_eq_emod_of_nonneg (by omega)]; exact q2
  clear hG
  clear hn2 hbn hH
  go_enter Tryd.func5, Tryd.ntmps5
  go_wp2_with fail
  refine (awake3_any hT hF).mono ?_
  rintro en w1 ⟨rfl, b⟩
  replace hT := hT.on b
  replace hF := hF.on b
  have BW := b
  clear b
  go_wp2_with fail
  refine (of_fm hf _ hF).mono ?_
  rintro en w2 ⟨rfl, b⟩
  replace hT := hT.on b
  replace hF := hF.on b
  replace BW := Below.step BW b
  clear b
  go_wp2_with fail
  obtain ⟨w3, e_w3⟩ : ∃ w', w2.alloc (.cells #[.int .i64 (B : Int), .int .i64 (P : Int), .int .i64 (W : Int)] 25) = w' := ⟨_, rfl⟩
  have b : Below w2.heap.size w2 w3 := e_w3 ▸ below_lit _ _
  have hs_w3 : w3.heap.size = w2.heap.size + 1 := e_w3 ▸ size_lit w2 _ rfl
  have zf : FB w3 w2.heap.size 25 (B : Int) (P : Int) (W : Int) := e_w3 ▸ Box.made_at w2 rfl 25 (notU_int _) (notU_int _) (notU_int _)
  rw [e_w3]
  clear e_w3
  replace hT := hT.on b
  replace hF := hF.on b
  replace BW := Below.step BW b
  clear b
  refine (value_as hf n hn hT HV.out).mono ?_
  rintro en w4 ⟨V_rv, v_rv, rfl, rv, b⟩
  replace hT := hT.on b
  replace hF := hF.on b
  replace zf := zf.on b
  replace BW := Below.step BW b
  clear b
  obtain rfl : v_rv = 0 := rv.zero_n
  obtain ⟨zfc0, zfc1, zfc2, zff0, zff1, zff2, zfl⟩ := zf.cells
  go_wp2_with fail
  clear zfc0 zfc1 zfc2 zff0 zff1 zff2 zfl
  obtain ⟨w5, e_w5⟩ : ∃ w', w4.alloc (dob false V_rv 0 0 0 37) = w' := ⟨_, rfl⟩
  have b : Below w4.heap.size w4 w5 := e_w5 ▸ below_lit _ _
  have hs_w5 : w5.heap.size = w4.heap.size + 1 := e_w5 ▸ size_lit w4 _ rfl
  have zv : DB w5 w4.heap.size 37 false V_rv 0 0 0 := e_w5 ▸ DB.made w4 rfl 37 false V_rv 0 0 0
  rw [e_w5]
  clear e_w5
  replace hT := hT.on b
  replace hF := hF.on b
  replace zf := zf.on b
  replace rv := rv.on b
  replace BW := Below.step BW b
  clear b
  refine (put_as hf (rv.arg (by omega)) (by omega) hT HP.out).mono ?_
  rintro en w6 ⟨rfl, b⟩
  replace hT := hT.on b
  replace hF := hF.on b
  replace zf := zf.on b
  replace rv := rv.on b
  replace zv := zv.on b
  replace BW := Below.step BW b
  clear b
  obtain ⟨zfc0, zfc1, zfc2, zff0, zff1, zff2, zfl⟩ := zf.cells
  obtain ⟨zvc0, zvc1, zvc2, zvf0, zvf1, zvf2, zvl⟩ := zv.cells
  go_wp2_with fail
  refine (class_as hf n 0 hn HC.out _).mono ?_
  rintro en w7 ⟨rfl, b⟩
  clear zfc0 zfc1 zfc2 zff0 zff1 zff2 zfl zvc0 zvc1 zvc2 zvf0 zvf1 zvf2 zvl
  replace hT := hT.on b
  replace hF := hF.on b
  replace zf := zf.on b
  replace rv := rv.on b
  replace zv := zv.on b
  replace BW := Below.step BW b
  clear b
  obtain ⟨zfc0, zfc1, zfc2, zff0, zff1, zff2, zfl⟩ := zf.cells
  obtain ⟨zvc0, zvc1, zvc2, zvf0, zvf1, zvf2, zvl⟩ := zv.cells
  go_wp2_with fail
  go_ret
  exact ⟨rfl, BW⟩
set_option maxHeartbeats 1000000 in
theorem back_num_w {B P W M E H : Nat} {low : Int} (hf : Fm B P W M E H low) (b n : Nat) (hb : b < 18446744073709551616) (hbn : b = n) (h64 : B = 64) (hE : n / M % (E + 1) ≠ E) (h0 : valN M E n ≠ 0) {w : World} (hT : Tab w) (hF : Frm w) :
    Calls Tryd.prog 5 #[.int .i64 (B : Int), .int .u64 (b : Int)] w fun e w' => e = .returned (.bool true) ∧ Below w.heap.size w w' := by
  subst hbn
  have hn := hb
  have hn2 : b < 2 * H := by rw [← hf.pB2, h64]; exact hb
  obtain ⟨dn, dx, de, hd⟩ : ∃ dn dx de, D.pl ⟨decide (b / H % 2 = 1), valN M E b, valP M E low b⟩ = ⟨dn, dx, de⟩ := ⟨_, _, _, rfl⟩
  have HV : Hid (valS M E H low b = (⟨dn, dx, de⟩, 0)) := by unfold valS; rw [if_pos hn2, if_neg hE, hd]; exact Lib.hid rfl
  have HP : Hid (putS P M E H low ⟨dn, dx, de⟩ = (b, 0)) := by rw [← hd, put_val hf b hn2 hE h0]; exact Lib.hid rfl
  have HN : Hid (decide (b / H % 2 = 1) = dn) := by
    rw [D.pl_pos (d := ⟨decide (b / H % 2 = 1), valN M E b, valP M E low b⟩) h0] at hd
    simp only [D.mk.injEq] at hd
    rw [hd.1]
    exact Lib.hid rfl
  have hl : blen dx ≤ 4096 := by
    have h1 := (val_may hf b (decide (b / H % 2 = 1))).2
    rw [hd] at h1
    exact ((D.may_iff _).1 h1).1
  obtain ⟨v, hv⟩ : ∃ v, clsS M E b = v := ⟨_, rfl⟩
  have HC := Lib.hid hv
  have d1 : (v == 0) = false := by
    simp
    intro h
    exact h0 (cls_zero hE (hv.trans h))
  clear hd hv hE h0
  have dB : decide ((B : Int) < 64) = false := decide_eq_false (by omega)
  clear h64 hn2
  go_enter Tryd.func5, Tryd.ntmps5
  go_wp2_with fail
  refine (awake3_any hT hF).mono ?_
  rintro en w1 ⟨rfl, b⟩
  replace hT := hT.on b
  replace hF := hF.on b
  have BW := b
  clear b
  go_wp2_with fail
  refine (of_fm hf _ hF).mono ?_
  rintro en w2 ⟨rfl, b⟩
  replace hT := hT.on b
  replace hF := hF.on b
  replace BW := Below.step BW b
  clear b
  go_wp2_with fail
  obtain ⟨w3, e_w3⟩ : ∃ w', w2.alloc (.cells #[.int .i64 (B : Int), .int .i64 (P : Int), .int .i64 (W : Int)] 25) = w' := ⟨_, rfl⟩
  have b : Below w2.heap.size w2 w3 := e_w3 ▸ below_lit _ _
  have hs_w3 : w3.heap.size = w2.heap.size + 1 := e_w3 ▸ size_lit w2 _ rfl
  have zf : FB w3 w2.heap.size 25 (B : Int) (P : Int) (W : Int) := e_w3 ▸ Box.made_at w2 rfl 25 (notU_int _) (notU_int _) (notU_int _)
  rw [e_w3]
  clear e_w3
  replace hT := hT.on b
  replace hF := hF.on b
  replace BW := Below.step BW b
  clear b
  refine (value_as hf b hn hT HV.out).mono ?_
  rintro en w4 ⟨V_rv, v_rv, rfl, rv, b⟩
  replace hT := hT.on b
  replace hF := hF.on b
  replace zf := zf.on b
  replace BW := Below.step BW b
  clear b
  have lv := res_n_le rv (k := 128) hl
  obtain ⟨zfc0, zfc1, zfc2, zff0, zff1, zff2, zfl⟩ := zf.cells
  go_wp2_with fail
  clear zfc0 zfc1 zfc2 zff0 zff1 zff2 zfl
  obtain ⟨w5, e_w5⟩ : ∃ w', w4.alloc (dob dn V_rv v_rv v_rv de 37) = w' := ⟨_, rfl⟩
  have b : Below w4.heap.size w4 w5 := e_w5 ▸ below_lit _ _
  have hs_w5 : w5.heap.size = w4.heap.size + 1 := e_w5 ▸ size_lit w4 _ rfl
  have zv : DB w5 w4.heap.size 37 dn V_rv v_rv v_rv de := e_w5 ▸ DB.made w4 rfl 37 dn V_rv v_rv v_rv de
  rw [e_w5]
  clear e_w5
  replace hT := hT.on b
  replace hF := hF.on b
  replace zf := zf.on b
  replace rv := rv.on b
  replace BW := Below.step BW b
  clear b
  refine (put_as hf (rv.arg (by omega)) (by omega) hT HP.out).mono ?_
  rintro en w6 ⟨rfl, b⟩
  replace hT := hT.on b
  replace hF := hF.on b
  replace zf := zf.on b
  replace rv := rv.on b
  replace zv := zv.on b
  replace BW := Below.step BW b
  clear b
  obtain ⟨zfc0, zfc1, zfc2, zff0, zff1, zff2, zfl⟩ := zf.cells
  obtain ⟨zvc0, zvc1, zvc2, zvf0, zvf1, zvf2, zvl⟩ := zv.cells
  go_wp2_with fail
  refine (class_as hf b v hn HC.out _).mono ?_
  rintro en w7 ⟨rfl, b⟩
  clear zfc0 zfc1 zfc2 zff0 zff1 zff2 zfl zvc0 zvc1 zvc2 zvf0 zvf1 zvf2 zvl
  replace hT := hT.on b
  replace hF := hF.on b
  replace zf := zf.on b
  replace rv := rv.on b
  replace zv := zv.on b
  replace BW := Below.step BW b
  clear b
  obtain ⟨zfc0, zfc1, zfc2, zff0, zff1, zff2, zfl⟩ := zf.cells
  obtain ⟨zvc0, zvc1, zvc2, zvf0, zvf1, zvf2, zvl⟩ := zv.cells
  go_wp2_with fail
  clear zfc0 zfc1 zfc2 zff0 zff1 zff2 zfl zvc0 zvc1 zvc2 zvf0 zvf1 zvf2 zvl
  replace hT := hT.on ((Below.refl _ _).drew : Below w7.heap.size w7 w7.drew)
  replace hF := hF.on ((Below.refl _ _).drew : Below w7.heap.size w7 w7.drew)
  replace zf := zf.on ((Below.refl _ _).drew : Below w7.heap.size w7 w7.drew)
  replace rv := rv.on ((Below.refl _ _).drew : Below w7.heap.size w7 w7.drew)
  replace zv := zv.on ((Below.refl _ _).drew : Below w7.heap.size w7 w7.drew)
  replace BW := Lib.hid (Below.step BW ((Below.refl _ _).drew : Below w7.heap.size w7 w7.drew))
  go_region_held3 (fun w' => w'.cell? ⟨w2.heap.size, 0, none⟩ = some (.int .i64 (B : Int)) ∧ w'.cell? ⟨w2.heap.size, 1, none⟩ = some (.int .i64 (P : Int)) ∧ w'.cell? ⟨w2.heap.size, 2, none⟩ = some (.int .i64 (W : Int)) ∧ w'.cell? ⟨w4.heap.size, 0, none⟩ = some (.bool dn) ∧ w'.cell? ⟨w4.heap.size, 1, none⟩ = some (.slice V_rv v_rv v_rv) ∧ w'.cell? ⟨w4.heap.size, 2, none⟩ = some (.int .i64 de))
    ((first | exact ⟨zf.cells.1, zf.cells.2.1, zf.cells.2.2.1, zv.cells.1, zv.cells.2.1, zv.cells.2.2.1⟩))
    (first
      | (go_at_call 21
         (with_reducible refine (fneg_as hf b hn dn HN.out _).mono ?_)
         rintro en w8 ⟨rfl, b⟩
         replace hT := hT.on b
         replace hF := hF.on b
         replace zf := zf.on b
         replace rv := rv.on b
         replace zv := zv.on b
         replace BW := Lib.hid (Below.step BW.out b)
         clear b))
  replace BW := BW.out
  go_wp2_with fail
  go_ret
  exact ⟨rfl, BW⟩
set_option maxHeartbeats 1000000 in
theorem back_num_n {B P W M E H : Nat} {low : Int} (hf : Fm B P W M E H low) (b n : Nat) (hb : b < 18446744073709551616) (hbn : b % (2 * H) = n) (h64 : B < 64) (hE : n / M % (E + 1) ≠ E) (h0 : valN M E n ≠ 0) {w : World} (hT : Tab w) (hF : Frm w) :
    Calls Tryd.prog 5 #[.int .i64 (B : Int), .int .u64 (b : Int)] w fun e w' => e = .returned (.bool true) ∧ Below w.heap.size w w' := by
  have hH := hf.bd
  have hn2 : n < 2 * H := by rw [← hbn]; exact Nat.mod_lt _ (by omega)
  have hn : n < 18446744073709551616 := by have := Nat.mod_le b (2 * H); omega
  obtain ⟨dn, dx, de, hd⟩ : ∃ dn dx de, D.pl ⟨decide (n / H % 2 = 1), valN M E n, valP M E low n⟩ = ⟨dn, dx, de⟩ := ⟨_, _, _, rfl⟩
  have HV : Hid (valS M E H low n = (⟨dn, dx, de⟩, 0)) := by unfold valS; rw [if_pos hn2, if_neg hE, hd]; exact Lib.hid rfl
  have HP : Hid (putS P M E H low ⟨dn, dx, de⟩ = (n, 0)) := by rw [← hd, put_val hf n hn2 hE h0]; exact Lib.hid rfl
  have HN : Hid (decide (n / H % 2 = 1) = dn) := by
    rw [D.pl_pos (d := ⟨decide (n / H % 2 = 1), valN M E n, valP M E low n⟩) h0] at hd
    simp only [D.mk.injEq] at hd
    rw [hd.1]
    exact Lib.hid rfl
  have hl : blen dx ≤ 4096 := by
    have h1 := (val_may hf n (decide (n / H % 2 = 1))).2
    rw [hd] at h1
    exact ((D.may_iff _).1 h1).1
  obtain ⟨v, hv⟩ : ∃ v, clsS M E n = v := ⟨_, rfl⟩
  have HC := Lib.hid hv
  have d1 : (v == 0) = false := by
    simp
    intro h
    exact h0 (cls_zero hE (hv.trans h))
  clear hd hv hE h0
  have dB : decide ((B : Int) < 64) = true := decide_eq_true (by omega)
  have q0 : 0 ≤ (B : Int) := by omega
  obtain ⟨G, hG⟩ : ∃ G, 2 * H = G := ⟨_, rfl⟩
  have hG0 : 0 < G := by omega
  have q1 : IntKind.u64.wrap (2 ^ B) = (G : Int) := by rw [← two_cast, hf.pB2, hG]; exact wrap64_nat _ (by
    have h1 : 2 ^ B ≤ 2 ^ 63 := Nat.pow_le_pow_right (by omega) (by omega)
    rw [hf.pB2] at h1
    omega)
  have q2 : (b : Int) % (G : Int) = (n : Int) := by rw [← Int.natCast_emod, ← hG, hbn]
  have q3 : (b : Int).tmod (G : Int) = (n : Int) := by rw [Int.tmod_eq_emod_of_nonneg (by omega)]; exact q2
  clear hG
  clear hn2 hbn hH
  go_enter Tryd.func5, Tryd.ntmps5
  go_wp2_with fail
  refine (awake3_any hT hF).mono ?_
  rintro en w1 ⟨rfl, b⟩
  replace hT := hT.on b
  replace hF := hF.on b
  have BW := b
  clear b
  go_wp2_with fail
  refine (of_fm hf _ hF).mono ?_
  rintro en w2 ⟨rfl, b⟩
  replace hT := hT.on b
  replace hF := hF.on b
  replace BW := Below.step BW b
  clear b
  go_wp2_with fail
  obtain ⟨w3, e_w3⟩ : ∃ w', w2.alloc (.cells #[.int .i64 (B : Int), .int .i64 (P : Int), .int .i64 (W : Int)] 25) = w' := ⟨_, rfl⟩
  have b : Below w2.heap.size w2 w3 := e_w3 ▸ below_lit _ _
  have hs_w3 : w3.heap.size = w2.heap.size + 1 := e_w3 ▸ size_lit w2 _ rfl
  have zf : FB w3 w2.heap.size 25 (B : Int) (P : Int) (W : Int) := e_w3 ▸ Box.made_at w2 rfl 25 (notU_int _) (notU_int _) (notU_int _)
  rw [e_w3]
  clear e_w3
  replace hT := hT.on b
  replace hF := hF.on b
  replace BW := Below.step BW b
  clear b
  refine (value_as hf n hn hT HV.out).mono ?_
  rintro en w4 ⟨V_rv, v_rv, rfl, rv, b⟩
  replace hT := hT.on b
  replace hF := hF.on b
  replace zf := zf.on b
  replace BW := Below.step BW b
  clear b
  have lv := res_n_le rv (k := 128) hl
  obtain ⟨zfc0, zfc1, zfc2, zff0, zff1, zff2, zfl⟩ := zf.cells
  go_wp2_with fail
  clear zfc0 zfc1 zfc2 zff0 zff1 zff2 zfl
  obtain ⟨w5, e_w5⟩ : ∃ w', w4.alloc (dob dn V_rv v_rv v_rv de 37) = w' := ⟨_, rfl⟩
  have b : Below w4.heap.size w4 w5 := e_w5 ▸ below_lit _ _
  have hs_w5 : w5.heap.size = w4.heap.size + 1 := e_w5 ▸ size_lit w4 _ rfl
  have zv : DB w5 w4.heap.size 37 dn V_rv v_rv v_rv de := e_w5 ▸ DB.made w4 rfl 37 dn V_rv v_rv v_rv de
  rw [e_w5]
  clear e_w5
  replace hT := hT.on b
  replace hF := hF.on b
  replace zf := zf.on b
  replace rv := rv.on b
  replace BW := Below.step BW b
  clear b
  refine (put_as hf (rv.arg (by omega)) (by omega) hT HP.out).mono ?_
  rintro en w6 ⟨rfl, b⟩
  replace hT := hT.on b
  replace hF := hF.on b
  replace zf := zf.on b
  replace rv := rv.on b
  replace zv := zv.on b
  replace BW := Below.step BW b
  clear b
  obtain ⟨zfc0, zfc1, zfc2, zff0, zff1, zff2, zfl⟩ := zf.cells
  obtain ⟨zvc0, zvc1, zvc2, zvf0, zvf1, zvf2, zvl⟩ := zv.cells
  go_wp2_with fail
  refine (class_as hf n v hn HC.out _).mono ?_
  rintro en w7 ⟨rfl, b⟩
  clear zfc0 zfc1 zfc2 zff0 zff1 zff2 zfl zvc0 zvc1 zvc2 zvf0 zvf1 zvf2 zvl
  replace hT := hT.on b
  replace hF := hF.on b
  replace zf := zf.on b
  replace rv := rv.on b
  replace zv := zv.on b
  replace BW := Below.step BW b
  clear b
  obtain ⟨zfc0, zfc1, zfc2, zff0, zff1, zff2, zfl⟩ := zf.cells
  obtain ⟨zvc0, zvc1, zvc2, zvf0, zvf1, zvf2, zvl⟩ := zv.cells
  go_wp2_with fail
  clear zfc0 zfc1 zfc2 zff0 zff1 zff2 zfl zvc0 zvc1 zvc2 zvf0 zvf1 zvf2 zvl
  replace hT := hT.on ((Below.refl _ _).drew : Below w7.heap.size w7 w7.drew)
  replace hF := hF.on ((Below.refl _ _).drew : Below w7.heap.size w7 w7.drew)
  replace zf := zf.on ((Below.refl _ _).drew : Below w7.heap.size w7 w7.drew)
  replace rv := rv.on ((Below.refl _ _).drew : Below w7.heap.size w7 w7.drew)
  replace zv := zv.on ((Below.refl _ _).drew : Below w7.heap.size w7 w7.drew)
  replace BW := Lib.hid (Below.step BW ((Below.refl _ _).drew : Below w7.heap.size w7 w7.drew))
  go_region_held3 (fun w' => w'.cell? ⟨w2.heap.size, 0, none⟩ = some (.int .i64 (B : Int)) ∧ w'.cell? ⟨w2.heap.size, 1, none⟩ = some (.int .i64 (P : Int)) ∧ w'.cell? ⟨w2.heap.size, 2, none⟩ = some (.int .i64 (W : Int)) ∧ w'.cell? ⟨w4.heap.size, 0, none⟩ = some (.bool dn) ∧ w'.cell? ⟨w4.heap.size, 1, none⟩ = some (.slice V_rv v_rv v_rv) ∧ w'.cell? ⟨w4.heap.size, 2, none⟩ = some (.int .i64 de))
    ((first | exact ⟨zf.cells.1, zf.cells.2.1, zf.cells.2.2.1, zv.cells.1, zv.cells.2.1, zv.cells.2.2.1⟩))
    (first
      | (go_at_call 21
         (with_reducible refine (fneg_as hf n hn dn HN.out _).mono ?_)
         rintro en w8 ⟨rfl, b⟩
         replace hT := hT.on b
         replace hF := hF.on b
         replace zf := zf.on b
         replace rv := rv.on b
         replace zv := zv.on b
         replace BW := Lib.hid (Below.step BW.out b)
         clear b))
  replace BW := BW.out
  go_wp2_with fail
  go_ret
  exact ⟨rfl, BW⟩
theorem back_walk (bits : Int) (b : Nat) (hb : b < 18446744073709551616) {w : World} (hT : Tab w) (hF : Frm w) :
    Calls Tryd.prog 5 #[.int .i64 bits, .int .u64 (b : Int)] w fun e w' => e = .returned (.bool true) ∧ Below w.heap.size w w' := by
  rcases fm_of bits with ⟨B, P, W, M, E, H, low, hf, rfl⟩ | ⟨h1, h2, h3⟩
  · obtain ⟨b1, b2, b3, b4, b5, b6, b7, b8, b9, b10, b11, b12, b13, b14, b15⟩ := hf.bd
    by_cases h64 : B = 64
    · by_cases hE : b / M % (E + 1) = E
      · exact back_arg_w hf b b hb rfl h64 hE hT hF
      · by_cases h0 : valN M E b = 0
        · exact back_zero_w hf b b hb rfl h64 hE h0 hT hF
        · exact back_num_w hf b b hb rfl h64 hE h0 hT hF
    · obtain ⟨n, hn⟩ : ∃ n, b % (2 * H) = n := ⟨_, rfl⟩
      by_cases hE : n / M % (E + 1) = E
      · exact back_arg_n hf b n hb hn (by omega) hE hT hF
      · by_cases h0 : valN M E n = 0
        · exact back_zero_n hf b n hb hn (by omega) hE h0 hT hF
        · exact back_num_n hf b n hb hn (by omega) hE h0 hT hF
  · exact back_bad bits (b : Int) h1 h2 h3 hT hF
end Go.Proofs.YtflicmdgijghaaaDoor
