
/-
  The walk of the statements' awake: calls whose answers the document fixes.
-/
import Derived.Test.YtflicmdgijghaaaDoorFp
import Derived.Test.YtflicmdgijghaaaDoorFs
import Derived.Test.YtflicmdgijghaaaDoorDj
import Derived.Test.YtflicmdgijghaaaDoorLex
namespace Go.Proofs.YtflicmdgijghaaaDoor
open Go.RowKit
set_option linter.unusedVariables false

theorem Frm.at {w w' : World} (h : Frm w) (hb : Below w.heap.size w w') : Frm w' := h.on hb
theorem f16 : Fm 16 11 5 1024 31 32768 (-24) := .inl ⟨rfl, rfl, rfl, rfl, rfl, rfl, rfl⟩
theorem Res.one_n {w : World} {A : Option Addr} {n : Nat} (h : Res w A n 1) : n = 1 := by
  obtain ⟨xs, h1, h2, h3⟩ := h
  have h4 : xs = [1] := canon_unique xs [1] h2 (canon1 1 (by omega) (by omega)) (by rw [h3]; rfl)
  have h5 := h1.len
  rw [h4] at h5
  exact h5.symm
theorem ev_v1 : valS 1024 31 32768 (-24) 15360 = (⟨false, 1, 0⟩, 0) := by
  unfold valS valN valP
  rw [if_pos (by decide), if_neg (by decide), if_neg (by decide), if_neg (by decide), pl_eval (decide (15360 / 32768 % 2 = 1)) 10 1 (e' := 0) (by decide) (by decide) (by decide)]
  rfl
theorem ev_v2 : valS 1024 31 32768 (-24) 1 = (⟨false, 1, -24⟩, 0) := by
  unfold valS valN valP
  rw [if_pos (by decide), if_neg (by decide), if_pos (by decide), if_pos (by decide), pl_eval (decide (1 / 32768 % 2 = 1)) 0 1 (e' := -24) (by decide) (by decide) (by decide)]
  rfl
theorem ev_v3 : valS 1024 31 32768 (-24) 31744 = (⟨false, 0, 0⟩, 1) := by
  unfold valS
  rw [if_pos (by decide), if_pos (by decide)]
theorem ev_v4 : valS 1024 31 32768 (-24) 65536 = (⟨false, 0, 0⟩, 3) := by
  unfold valS
  rw [if_neg (by decide)]
theorem ev_m2 : ofD (-2) = ⟨true, 1, 1⟩ := ev_of (-2) 1 1 rfl rfl rfl rfl
theorem ev_65536 : ofD 65536 = ⟨false, 1, 16⟩ := ev_of 65536 16 1 rfl rfl rfl rfl
theorem ev_1 : ofD 1 = ⟨false, 1, 0⟩ := ev_of 1 0 1 rfl rfl rfl rfl
theorem bl1 : blen 1 = 1 := by decide
theorem ev_put1 : putS 11 1024 31 32768 (-24) ⟨true, 1, 1⟩ = (49152, 0) := by
  unfold putS plcS
  rw [may_small (by decide) (by decide) (by decide), if_pos rfl, if_neg (by decide), pl_eval true 0 1 (e := 1) (e' := 1) (by decide) (by decide) (by decide)]
  simp only [bl1]
  rw [if_neg (by decide)]
  rfl
theorem ev_put2 : putS 11 1024 31 32768 (-24) ⟨false, 1, 16⟩ = (0, 10) := by
  unfold putS plcS
  rw [may_small (by decide) (by decide) (by decide), if_pos rfl, if_neg (by decide), pl_eval false 0 1 (e := 16) (e' := 16) (by decide) (by decide) (by decide)]
  simp only [bl1]
  rw [if_pos (by decide)]
abbrev v16 : Value := .agg #[.int .i64 16, .int .i64 11, .int .i64 5]
theorem v1 {w : World} (hT : Tab w) : Calls Tryd.prog 12 #[.agg #[.int .i64 16, .int .i64 11, .int .i64 5], .int .u64 15360] w (DPx w false 1 0 0) := value_as f16 15360 (by omega) hT ev_v1
theorem v2 {w : World} (hT : Tab w) : Calls Tryd.prog 12 #[.agg #[.int .i64 16, .int .i64 11, .int .i64 5], .int .u64 1] w (DPx w false 1 (-24) 0) := value_as f16 1 (by omega) hT ev_v2
theorem v3 {w : World} (hT : Tab w) : Calls Tryd.prog 12 #[.agg #[.int .i64 16, .int .i64 11, .int .i64 5], .int .u64 31744] w (DPx w false 0 0 1) := value_as f16 31744 (by omega) hT ev_v3
theorem v4 {w : World} (hT : Tab w) : Calls Tryd.prog 12 #[.agg #[.int .i64 16, .int .i64 11, .int .i64 5], .int .u64 65536] w (DPx w false 0 0 3) := value_as f16 65536 (by omega) hT ev_v4
theorem aw_put1 {A : Option Addr} {k c : Nat} {w : World} (h : Arg w A k c 1) (hs : k ≤ 30000) (hT : Tab w) : Calls Tryd.prog 34 #[.agg #[.int .i64 16, .int .i64 11, .int .i64 5], .agg #[.bool true, .slice A k c, .int .i64 1]] w fun en w' => en = .returned (.tuple #[.int .u64 49152, .int .i64 0]) ∧ Below w.heap.size w w' := put_as f16 h hs hT ev_put1
theorem aw_put2 {A : Option Addr} {k c : Nat} {w : World} (h : Arg w A k c 1) (hs : k ≤ 30000) (hT : Tab w) : Calls Tryd.prog 34 #[.agg #[.int .i64 16, .int .i64 11, .int .i64 5], .agg #[.bool false, .slice A k c, .int .i64 16]] w fun en w' => en = .returned (.tuple #[.int .u64 0, .int .i64 10]) ∧ Below w.heap.size w w' := put_as f16 h hs hT ev_put2
theorem aw_bias (w : World) : Calls Tryd.prog 14 #[.agg #[.int .i64 16, .int .i64 11, .int .i64 5]] w fun e w' => e = .returned (.int .i64 15) ∧ Below w.heap.size w w' := bias_as f16 15 rfl w
theorem aw_low (w : World) : Calls Tryd.prog 16 #[.agg #[.int .i64 16, .int .i64 11, .int .i64 5]] w fun e w' => e = .returned (.int .i64 (-24)) ∧ Below w.heap.size w w' := flow_as f16 (-24) rfl w
theorem aw_c1 (w : World) : Calls Tryd.prog 19 #[.agg #[.int .i64 16, .int .i64 11, .int .i64 5], .int .u64 32256] w fun e w' => e = .returned (.int .i64 4) ∧ Below w.heap.size w w' := class_as f16 32256 4 (by omega) (by decide) w
theorem aw_c2 (w : World) : Calls Tryd.prog 19 #[.agg #[.int .i64 16, .int .i64 11, .int .i64 5], .int .u64 31745] w fun e w' => e = .returned (.int .i64 5) ∧ Below w.heap.size w w' := class_as f16 31745 5 (by omega) (by decide) w
theorem aw_c3 (w : World) : Calls Tryd.prog 19 #[.agg #[.int .i64 16, .int .i64 11, .int .i64 5], .int .u64 1] w fun e w' => e = .returned (.int .i64 1) ∧ Below w.heap.size w w' := class_as f16 1 1 (by omega) (by decide) w
theorem aw_neg (w : World) : Calls Tryd.prog 21 #[.agg #[.int .i64 16, .int .i64 11, .int .i64 5], .int .u64 32768] w fun e w' => e = .returned (.bool true) ∧ Below w.heap.size w w' := fneg_as f16 32768 (by omega) true (by decide) w
theorem aw_m1 (w : World) : Calls Tryd.prog 18 #[.agg #[.int .i64 16, .int .i64 11, .int .i64 5], .int .u64 65535] w fun e w' => e = .returned (.bool true) ∧ Below w.heap.size w w' := fmay_as f16 65535 (by omega) true (by decide) w
theorem aw_m2 (w : World) : Calls Tryd.prog 18 #[.agg #[.int .i64 16, .int .i64 11, .int .i64 5], .int .u64 65536] w fun e w' => e = .returned (.bool false) ∧ Below w.heap.size w w' := fmay_as f16 65536 (by omega) false (by decide) w
theorem aw_inf (w : World) : Calls Tryd.prog 24 #[.agg #[.int .i64 16, .int .i64 11, .int .i64 5], .bool true] w fun e w' => e = .returned (.int .u64 64512) ∧ Below w.heap.size w w' := infinite_as f16 true 64512 (by decide) w
theorem aw_gr (w : World) : Calls Tryd.prog 26 #[.agg #[.int .i64 16, .int .i64 11, .int .i64 5], .bool false] w fun e w' => e = .returned (.int .u64 31743) ∧ Below w.heap.size w w' := greatest_as f16 false 31743 (by decide) w
theorem aw_no (w : World) : Calls Tryd.prog 28 #[.agg #[.int .i64 16, .int .i64 11, .int .i64 5], .bool true] w fun e w' => e = .returned (.int .u64 32768) ∧ Below w.heap.size w w' := nought_as f16 true 32768 (by decide) w
theorem aw_none (w : World) : Calls Tryd.prog 30 #[.agg #[.int .i64 16, .int .i64 11, .int .i64 5]] w fun e w' => e = .returned (.int .u64 32256) ∧ Below w.heap.size w w' := fnone_as f16 32256 (by decide) w
theorem aw_q (w : World) : Calls Tryd.prog 32 #[.agg #[.int .i64 16, .int .i64 11, .int .i64 5], .int .u64 64513] w fun e w' => e = .returned (.int .u64 65025) ∧ Below w.heap.size w w' := quieted_as f16 64513 65025 (by omega) (by decide) w
theorem Box.made_at (w : World) {s : Nat} (hs : w.heap.size = s) (t : TypeId) {a b c : Value} (ha : NotU a) (hb : NotU b) (hc : NotU c) : Box (w.alloc (.cells #[a, b, c] t)) s t a b c := hs ▸ Box.made w t ha hb hc
set_option maxHeartbeats 4000000 in
set_option maxRecDepth 100000 in
theorem awake3_any {w : World} (hT : Tab w) (hF : Frm w) :
    Calls Tryd.prog 8 #[] w fun e w' => e = .returned (.bool true) ∧ Below w.heap.size w w' := by
  go_enter Tryd.func8, Tryd.ntmps8
  go_wp2_with fail
  refine (of_16 _ hF).mono ?_
  rintro en w1 ⟨rfl, b⟩
  replace hT := hT.on b
  replace hF := hF.on b
  have BW := b
  clear b
  go_wp2_with fail
  obtain ⟨w2, e_w2⟩ : ∃ w', w1.alloc (.cells #[.int .i64 16, .int .i64 11, .int .i64 5] 25) = w' := ⟨_, rfl⟩
  have b : Below w1.heap.size w1 w2 := e_w2 ▸ below_lit _ _
  have hs_w2 : w2.heap.size = w1.heap.size + 1 := e_w2 ▸ size_lit w1 _ rfl
  have zf : FB w2 w1.heap.size 25 (16) (11) (5) := e_w2 ▸ Box.made_at w1 rfl 25 (notU_int _) (notU_int _) (notU_int _)
  rw [e_w2]
  clear e_w2
  replace hT := hT.on b
  replace hF := hF.on b
  replace BW := Below.step BW b
  clear b
  refine (of_bad 17 (by omega) (by omega) (by omega) _ hF).mono ?_
  rintro en w3 ⟨rfl, b⟩
  replace hT := hT.on b
  replace hF := hF.on b
  replace zf := zf.on b
  replace BW := Below.step BW b
  clear b
  obtain ⟨zfc0, zfc1, zfc2, zff0, zff1, zff2, zfl⟩ := zf.cells
  go_wp2_with fail
  clear zfc0 zfc1 zfc2 zff0 zff1 zff2 zfl
  obtain ⟨w4, e_w4⟩ : ∃ w', w3.alloc (.cells #[.int .i64 0, .int .i64 0, .int .i64 0] 25) = w' := ⟨_, rfl⟩
  have b : Below w3.heap.size w3 w4 := e_w4 ▸ below_lit _ _
  have hs_w4 : w4.heap.size = w3.heap.size + 1 := e_w4 ▸ size_lit w3 _ rfl
  have zg : FB w4 w3.heap.size 25 (0) (0) (0) := e_w4 ▸ Box.made_at w3 rfl 25 (notU_int _) (notU_int _) (notU_int _)
  rw [e_w4]
  clear e_w4
  replace hT := hT.on b
  replace hF := hF.on b
  replace zf := zf.on b
  replace BW := Below.step BW b
  clear b
  clear zg
  refine (v1 hT).mono ?_
  rintro en w5 ⟨V_r0, v_r0, rfl, r0, b⟩
  replace hT := hT.on b
  replace hF := hF.on b
  replace zf := zf.on b
  replace BW := Below.step BW b
  clear b
  obtain ⟨zfc0, zfc1, zfc2, zff0, zff1, zff2, zfl⟩ := zf.cells
  go_wp2_with fail
  clear zfc0 zfc1 zfc2 zff0 zff1 zff2 zfl
  obtain ⟨w6, e_w6⟩ : ∃ w', w5.alloc (dob false V_r0 v_r0 v_r0 0 37) = w' := ⟨_, rfl⟩
  have b : Below w5.heap.size w5 w6 := e_w6 ▸ below_lit _ _
  have hs_w6 : w6.heap.size = w5.heap.size + 1 := e_w6 ▸ size_lit w5 _ rfl
  have z0 : DB w6 w5.heap.size 37 false V_r0 v_r0 v_r0 0 := e_w6 ▸ DB.made w5 rfl 37 false V_r0 v_r0 v_r0 0
  rw [e_w6]
  clear e_w6
  replace hT := hT.on b
  replace hF := hF.on b
  replace zf := zf.on b
  replace r0 := r0.on b
  replace BW := Below.step BW b
  clear b
  refine (v2 hT).mono ?_
  rintro en w7 ⟨V_r1, v_r1, rfl, r1, b⟩
  replace hT := hT.on b
  replace hF := hF.on b
  replace zf := zf.on b
  replace r0 := r0.on b
  replace z0 := z0.on b
  replace BW := Below.step BW b
  clear b
  obtain ⟨zfc0, zfc1, zfc2, zff0, zff1, zff2, zfl⟩ := zf.cells
  go_wp2_with fail
  clear zfc0 zfc1 zfc2 zff0 zff1 zff2 zfl
  obtain ⟨w8, e_w8⟩ : ∃ w', w7.alloc (dob false V_r1 v_r1 v_r1 (-24) 37) = w' := ⟨_, rfl⟩
  have b : Below w7.heap.size w7 w8 := e_w8 ▸ below_lit _ _
  have hs_w8 : w8.heap.size = w7.heap.size + 1 := e_w8 ▸ size_lit w7 _ rfl
  have z1 : DB w8 w7.heap.size 37 false V_r1 v_r1 v_r1 (-24) := e_w8 ▸ DB.made w7 rfl 37 false V_r1 v_r1 v_r1 (-24)
  rw [e_w8]
  clear e_w8
  replace hT := hT.on b
  replace hF := hF.on b
  replace zf := zf.on b
  replace r0 := r0.on b
  replace z0 := z0.on b
  replace r1 := r1.on b
  replace BW := Below.step BW b
  clear b
  refine (v3 hT).mono ?_
  rintro en w9 ⟨V_r2, v_r2, rfl, r2, b⟩
  replace hT := hT.on b
  replace hF := hF.on b
  replace zf := zf.on b
  replace r0 := r0.on b
  replace z0 := z0.on b
  replace r1 := r1.on b
  replace z1 := z1.on b
  replace BW := Below.step BW b
  clear b
  obtain ⟨zfc0, zfc1, zfc2, zff0, zff1, zff2, zfl⟩ := zf.cells
  go_wp2_with fail
  clear zfc0 zfc1 zfc2 zff0 zff1 zff2 zfl
  obtain ⟨w10, e_w10⟩ : ∃ w', w9.alloc (dob false V_r2 v_r2 v_r2 0 37) = w' := ⟨_, rfl⟩
  have b : Below w9.heap.size w9 w10 := e_w10 ▸ below_lit _ _
  have hs_w10 : w10.heap.size = w9.heap.size + 1 := e_w10 ▸ size_lit w9 _ rfl
  have z2 : DB w10 w9.heap.size 37 false V_r2 v_r2 v_r2 0 := e_w10 ▸ DB.made w9 rfl 37 false V_r2 v_r2 v_r2 0
  rw [e_w10]
  clear e_w10
  replace hT := hT.on b
  replace hF := hF.on b
  replace zf := zf.on b
  replace r0 := r0.on b
  replace z0 := z0.on b
  replace r1 := r1.on b
  replace z1 := z1.on b
  replace r2 := r2.on b
  replace BW := Below.step BW b
  clear b
  clear r2 z2
  refine (v4 hT).mono ?_
  rintro en w11 ⟨V_r3, v_r3, rfl, r3, b⟩
  replace hT := hT.on b
  replace hF := hF.on b
  replace zf := zf.on b
  replace r0 := r0.on b
  replace z0 := z0.on b
  replace r1 := r1.on b
  replace z1 := z1.on b
  replace BW := Below.step BW b
  clear b
  obtain ⟨zfc0, zfc1, zfc2, zff0, zff1, zff2, zfl⟩ := zf.cells
  go_wp2_with fail
  clear zfc0 zfc1 zfc2 zff0 zff1 zff2 zfl
  obtain ⟨w12, e_w12⟩ : ∃ w', w11.alloc (dob false V_r3 v_r3 v_r3 0 37) = w' := ⟨_, rfl⟩
  have b : Below w11.heap.size w11 w12 := e_w12 ▸ below_lit _ _
  have hs_w12 : w12.heap.size = w11.heap.size + 1 := e_w12 ▸ size_lit w11 _ rfl
  have z3 : DB w12 w11.heap.size 37 false V_r3 v_r3 v_r3 0 := e_w12 ▸ DB.made w11 rfl 37 false V_r3 v_r3 v_r3 0
  rw [e_w12]
  clear e_w12
  replace hT := hT.on b
  replace hF := hF.on b
  replace zf := zf.on b
  replace r0 := r0.on b
  replace z0 := z0.on b
  replace r1 := r1.on b
  replace z1 := z1.on b
  replace r3 := r3.on b
  replace BW := Below.step BW b
  clear b
  clear r3 z3
  replace hT := hT.on ((Below.refl _ _).drew : Below w12.heap.size w12 w12.drew)
  replace hF := hF.on ((Below.refl _ _).drew : Below w12.heap.size w12 w12.drew)
  replace zf := zf.on ((Below.refl _ _).drew : Below w12.heap.size w12 w12.drew)
  replace r0 := r0.on ((Below.refl _ _).drew : Below w12.heap.size w12 w12.drew)
  replace z0 := z0.on ((Below.refl _ _).drew : Below w12.heap.size w12 w12.drew)
  replace r1 := r1.on ((Below.refl _ _).drew : Below w12.heap.size w12 w12.drew)
  replace z1 := z1.on ((Below.refl _ _).drew : Below w12.heap.size w12 w12.drew)
  replace BW := Lib.hid (Below.step BW ((Below.refl _ _).drew : Below w12.heap.size w12 w12.drew))
  go_region_held3 (fun w' => w'.cell? ⟨w1.heap.size, 0, none⟩ = some (.int .i64 16) ∧ w'.cell? ⟨w1.heap.size, 1, none⟩ = some (.int .i64 11) ∧ w'.cell? ⟨w1.heap.size, 2, none⟩ = some (.int .i64 5))
    ((first | exact ⟨zf.cells.1, zf.cells.2.1, zf.cells.2.2.1⟩))
    (first
      | (go_at_call 39
         (with_reducible refine (dof_as (-2) (by omega) (by omega) hT ev_m2).mono ?_)
         rintro en w13 ⟨V_r5, v_r5, rfl, r5, b⟩
         replace hT := hT.on b
         replace hF := hF.on b
         replace zf := zf.on b
         replace r0 := r0.on b
         replace z0 := z0.on b
         replace r1 := r1.on b
         replace z1 := z1.on b
         replace BW := Lib.hid (Below.step BW.out b)
         have l5 := res_n_le r5 (k := 128) (by decide)
         clear b)
      | (go_at_call 34
         (with_reducible refine (aw_put1 (r5.arg (by omega)) (by omega) hT).mono ?_)
         rintro en w14 ⟨rfl, b⟩
         replace hT := hT.on b
         replace hF := hF.on b
         replace zf := zf.on b
         replace r0 := r0.on b
         replace z0 := z0.on b
         replace r1 := r1.on b
         replace z1 := z1.on b
         replace r5 := r5.on b
         replace BW := Lib.hid (Below.step BW.out b)
         clear b))
  replace BW := BW.out
  clear r5
  obtain rfl : v_r0 = 1 := r0.one_n
  obtain ⟨zfc0, zfc1, zfc2, zff0, zff1, zff2, zfl⟩ := zf.cells
  obtain ⟨z0c0, z0c1, z0c2, z0f0, z0f1, z0f2, z0l⟩ := z0.cells
  obtain ⟨z1c0, z1c1, z1c2, z1f0, z1f1, z1f2, z1l⟩ := z1.cells
  go_wp2_with fail
  clear zfc0 zfc1 zfc2 zff0 zff1 zff2 zfl z0c0 z0c1 z0c2 z0f0 z0f1 z0f2 z0l z1c0 z1c1 z1c2 z1f0 z1f1 z1f2 z1l
  replace hT := hT.on ((Below.refl _ _).drew : Below w14.heap.size w14 w14.drew)
  replace hF := hF.on ((Below.refl _ _).drew : Below w14.heap.size w14 w14.drew)
  replace zf := zf.on ((Below.refl _ _).drew : Below w14.heap.size w14 w14.drew)
  replace r0 := r0.on ((Below.refl _ _).drew : Below w14.heap.size w14 w14.drew)
  replace z0 := z0.on ((Below.refl _ _).drew : Below w14.heap.size w14 w14.drew)
  replace r1 := r1.on ((Below.refl _ _).drew : Below w14.heap.size w14 w14.drew)
  replace z1 := z1.on ((Below.refl _ _).drew : Below w14.heap.size w14 w14.drew)
  replace BW := Lib.hid (Below.step BW ((Below.refl _ _).drew : Below w14.heap.size w14 w14.drew))
  go_region_held3 (fun w' => w'.cell? ⟨w1.heap.size, 0, none⟩ = some (.int .i64 16) ∧ w'.cell? ⟨w1.heap.size, 1, none⟩ = some (.int .i64 11) ∧ w'.cell? ⟨w1.heap.size, 2, none⟩ = some (.int .i64 5))
    ((first | exact ⟨zf.cells.1, zf.cells.2.1, zf.cells.2.2.1⟩))
    (first
      | (go_at_call 39
         (with_reducible refine (dof_as 65536 (by omega) (by omega) hT ev_65536).mono ?_)
         rintro en w15 ⟨V_r5, v_r5, rfl, r5, b⟩
         replace hT := hT.on b
         replace hF := hF.on b
         replace zf := zf.on b
         replace r0 := r0.on b
         replace z0 := z0.on b
         replace r1 := r1.on b
         replace z1 := z1.on b
         replace BW := Lib.hid (Below.step BW.out b)
         have l5 := res_n_le r5 (k := 128) (by decide)
         clear b)
      | (go_at_call 34
         (with_reducible refine (aw_put2 (r5.arg (by omega)) (by omega) hT).mono ?_)
         rintro en w16 ⟨rfl, b⟩
         replace hT := hT.on b
         replace hF := hF.on b
         replace zf := zf.on b
         replace r0 := r0.on b
         replace z0 := z0.on b
         replace r1 := r1.on b
         replace z1 := z1.on b
         replace r5 := r5.on b
         replace BW := Lib.hid (Below.step BW.out b)
         clear b))
  replace BW := BW.out
  clear r5
  go_wp2_with fail
  dsimp only [List.append]
  refine region_plan [0, 1, 2, 3, 4, 5, 6, 7, 8, 9, 10, 11, 12, 13, 14, 15, 16, 17, 18, 19, 20, 21, 22, 23, 24, 25, 26, 27, 28, 29, 30, 31, 32, 33, 34, 35, 36, 37, 38, 39, 40, 41, 42, 43, 44, 45, 46, 47, 48, 49, 50, 51, 52, 53, 54, 55, 56, 57, 58, 59, 60, 61, 62, 63, 64, 65, 66, 67, 68, 69, 70, 71, 72, 73, 74, 75, 76, 77, 78, 79, 80, 81, 82, 83, 84, 85, 86, 87, 88, 89, 90, 91, 92, 93, 94, 95, 96, 97, 98, 99, 100, 101, 102, 103, 104, 105, 106, 107, 108, 109, 110, 111, 112, 113, 114, 115, 116, 117, 118] (by kernel_rfl) (by kernel_rfl) (by kernel_rfl) (by kernel_rfl) (by kernel_rfl) ?_
  dsimp only [pick, nth]
  replace hT := hT.on ((Below.refl _ _).drew : Below w16.heap.size w16 w16.drew)
  replace hF := hF.on ((Below.refl _ _).drew : Below w16.heap.size w16 w16.drew)
  replace zf := zf.on ((Below.refl _ _).drew : Below w16.heap.size w16 w16.drew)
  replace r0 := r0.on ((Below.refl _ _).drew : Below w16.heap.size w16 w16.drew)
  replace z0 := z0.on ((Below.refl _ _).drew : Below w16.heap.size w16 w16.drew)
  replace r1 := r1.on ((Below.refl _ _).drew : Below w16.heap.size w16 w16.drew)
  replace z1 := z1.on ((Below.refl _ _).drew : Below w16.heap.size w16 w16.drew)
  replace BW := Below.step BW ((Below.refl _ _).drew : Below w16.heap.size w16 w16.drew)
  obtain ⟨w17, e_w17⟩ : ∃ w', w16.drew = w' := ⟨_, rfl⟩
  rw [e_w17] at hT hF zf r0 z0 r1 z1 BW ⊢
  clear e_w17
  have lf0 : ∀ s : Wd w17, s.w.cell? ⟨w1.heap.size, 0, none⟩ = some (.int .i64 16) := fun s => (zf.on s.below).cells.1
  have lf1 : ∀ s : Wd w17, s.w.cell? ⟨w1.heap.size, 1, none⟩ = some (.int .i64 11) := fun s => (zf.on s.below).cells.2.1
  have lf2 : ∀ s : Wd w17, s.w.cell? ⟨w1.heap.size, 2, none⟩ = some (.int .i64 5) := fun s => (zf.on s.below).cells.2.2.1
  have lf3 : ∀ s : Wd w17, s.w.cell? ⟨w5.heap.size, 0, none⟩ = some (.bool false) := fun s => (z0.on s.below).cells.1
  have lf4 : ∀ s : Wd w17, s.w.cell? ⟨w5.heap.size, 1, none⟩ = some (.slice V_r0 1 1) := fun s => (z0.on s.below).cells.2.1
  have lf5 : ∀ s : Wd w17, s.w.cell? ⟨w5.heap.size, 2, none⟩ = some (.int .i64 0) := fun s => (z0.on s.below).cells.2.2.1
  have lf6 : ∀ s : Wd w17, s.w.cell? ⟨w7.heap.size, 0, none⟩ = some (.bool false) := fun s => (z1.on s.below).cells.1
  have lf7 : ∀ s : Wd w17, s.w.cell? ⟨w7.heap.size, 1, none⟩ = some (.slice V_r1 v_r1 v_r1) := fun s => (z1.on s.below).cells.2.1
  have lf8 : ∀ s : Wd w17, s.w.cell? ⟨w7.heap.size, 2, none⟩ = some (.int .i64 (-24)) := fun s => (z1.on s.below).cells.2.2.1
  refine lex_plain 13 (by kernel_rfl) ?_
  dsimp only [List.take, List.drop]
  repeat go_big_quiet_step (fail)
  refine wpQuiet_nil ?_
  clear lf0 lf1 lf2 lf3 lf4 lf5 lf6 lf7 lf8
  refine lex_call (by kernel_rfl) (by kernel_rfl) (fun w18 b K hK => ?_)
  replace hT := hT.on b
  replace hF := hF.on b
  replace zf := zf.on b
  replace r0 := r0.on b
  replace z0 := z0.on b
  replace r1 := r1.on b
  replace z1 := z1.on b
  replace BW := Below.step BW b
  clear b
  go_simp
  refine (aw_bias _).mono ?_
  rintro en w19 ⟨rfl, b⟩
  dsimp only
  refine hK _ _ b ?_
  clear hK K
  replace hT := hT.on b
  replace hF := hF.on b
  replace zf := zf.on b
  replace r0 := r0.on b
  replace z0 := z0.on b
  replace r1 := r1.on b
  replace z1 := z1.on b
  replace BW := Below.step BW b
  clear b
  have lf0 : ∀ s : Wd w19, s.w.cell? ⟨w1.heap.size, 0, none⟩ = some (.int .i64 16) := fun s => (zf.on s.below).cells.1
  have lf1 : ∀ s : Wd w19, s.w.cell? ⟨w1.heap.size, 1, none⟩ = some (.int .i64 11) := fun s => (zf.on s.below).cells.2.1
  have lf2 : ∀ s : Wd w19, s.w.cell? ⟨w1.heap.size, 2, none⟩ = some (.int .i64 5) := fun s => (zf.on s.below).cells.2.2.1
  have lf3 : ∀ s : Wd w19, s.w.cell? ⟨w5.heap.size, 0, none⟩ = some (.bool false) := fun s => (z0.on s.below).cells.1
  have lf4 : ∀ s : Wd w19, s.w.cell? ⟨w5.heap.size, 1, none⟩ = some (.slice V_r0 1 1) := fun s => (z0.on s.below).cells.2.1
  have lf5 : ∀ s : Wd w19, s.w.cell? ⟨w5.heap.size, 2, none⟩ = some (.int .i64 0) := fun s => (z0.on s.below).cells.2.2.1
  have lf6 : ∀ s : Wd w19, s.w.cell? ⟨w7.heap.size, 0, none⟩ = some (.bool false) := fun s => (z1.on s.below).cells.1
  have lf7 : ∀ s : Wd w19, s.w.cell? ⟨w7.heap.size, 1, none⟩ = some (.slice V_r1 v_r1 v_r1) := fun s => (z1.on s.below).cells.2.1
  have lf8 : ∀ s : Wd w19, s.w.cell? ⟨w7.heap.size, 2, none⟩ = some (.int .i64 (-24)) := fun s => (z1.on s.below).cells.2.2.1
  refine lex_plain 4 (by kernel_rfl) ?_
  dsimp only [List.take, List.drop]
  repeat go_big_quiet_step (fail)
  refine wpQuiet_nil ?_
  clear lf0 lf1 lf2 lf3 lf4 lf5 lf6 lf7 lf8
  refine lex_call (by kernel_rfl) (by kernel_rfl) (fun w20 b K hK => ?_)
  replace hT := hT.on b
  replace hF := hF.on b
  replace zf := zf.on b
  replace r0 := r0.on b
  replace z0 := z0.on b
  replace r1 := r1.on b
  replace z1 := z1.on b
  replace BW := Below.step BW b
  clear b
  go_simp
  refine (aw_low _).mono ?_
  rintro en w21 ⟨rfl, b⟩
  dsimp only
  refine hK _ _ b ?_
  clear hK K
  replace hT := hT.on b
  replace hF := hF.on b
  replace zf := zf.on b
  replace r0 := r0.on b
  replace z0 := z0.on b
  replace r1 := r1.on b
  replace z1 := z1.on b
  replace BW := Below.step BW b
  clear b
  have lf0 : ∀ s : Wd w21, s.w.cell? ⟨w1.heap.size, 0, none⟩ = some (.int .i64 16) := fun s => (zf.on s.below).cells.1
  have lf1 : ∀ s : Wd w21, s.w.cell? ⟨w1.heap.size, 1, none⟩ = some (.int .i64 11) := fun s => (zf.on s.below).cells.2.1
  have lf2 : ∀ s : Wd w21, s.w.cell? ⟨w1.heap.size, 2, none⟩ = some (.int .i64 5) := fun s => (zf.on s.below).cells.2.2.1
  have lf3 : ∀ s : Wd w21, s.w.cell? ⟨w5.heap.size, 0, none⟩ = some (.bool false) := fun s => (z0.on s.below).cells.1
  have lf4 : ∀ s : Wd w21, s.w.cell? ⟨w5.heap.size, 1, none⟩ = some (.slice V_r0 1 1) := fun s => (z0.on s.below).cells.2.1
  have lf5 : ∀ s : Wd w21, s.w.cell? ⟨w5.heap.size, 2, none⟩ = some (.int .i64 0) := fun s => (z0.on s.below).cells.2.2.1
  have lf6 : ∀ s : Wd w21, s.w.cell? ⟨w7.heap.size, 0, none⟩ = some (.bool false) := fun s => (z1.on s.below).cells.1
  have lf7 : ∀ s : Wd w21, s.w.cell? ⟨w7.heap.size, 1, none⟩ = some (.slice V_r1 v_r1 v_r1) := fun s => (z1.on s.below).cells.2.1
  have lf8 : ∀ s : Wd w21, s.w.cell? ⟨w7.heap.size, 2, none⟩ = some (.int .i64 (-24)) := fun s => (z1.on s.below).cells.2.2.1
  refine lex_plain 4 (by kernel_rfl) ?_
  dsimp only [List.take, List.drop]
  repeat go_big_quiet_step (fail)
  refine wpQuiet_nil ?_
  clear lf0 lf1 lf2 lf3 lf4 lf5 lf6 lf7 lf8
  refine lex_call (by kernel_rfl) (by kernel_rfl) (fun w22 b K hK => ?_)
  replace hT := hT.on b
  replace hF := hF.on b
  replace zf := zf.on b
  replace r0 := r0.on b
  replace z0 := z0.on b
  replace r1 := r1.on b
  replace z1 := z1.on b
  replace BW := Below.step BW b
  clear b
  go_simp
  refine (dof_as 1 (by omega) (by omega) hT ev_1).mono ?_
  rintro en w23 ⟨V_r6, v_r6, rfl, r6, b⟩
  dsimp only
  refine hK _ _ b ?_
  clear hK K
  replace hT := hT.on b
  replace hF := hF.on b
  replace zf := zf.on b
  replace r0 := r0.on b
  replace z0 := z0.on b
  replace r1 := r1.on b
  replace z1 := z1.on b
  replace BW := Below.step BW b
  clear b
  have l6 := res_n_le r6 (k := 128) (by decide)
  refine lex_call (by kernel_rfl) (by kernel_rfl) (fun w24 b K hK => ?_)
  replace hT := hT.on b
  replace hF := hF.on b
  replace zf := zf.on b
  replace r0 := r0.on b
  replace z0 := z0.on b
  replace r1 := r1.on b
  replace z1 := z1.on b
  replace r6 := r6.on b
  replace BW := Below.step BW b
  clear b
  go_simp
  refine (dsame_eq (r0.arg (by omega)) (r6.arg (by omega)) (by omega) (by omega) hT (may_small (by decide) (by decide) (by decide)) rfl).mono ?_
  rintro en w25 ⟨rfl, b⟩
  dsimp only
  refine hK _ _ b ?_
  clear hK K
  replace hT := hT.on b
  replace hF := hF.on b
  replace zf := zf.on b
  replace r0 := r0.on b
  replace z0 := z0.on b
  replace r1 := r1.on b
  replace z1 := z1.on b
  replace r6 := r6.on b
  replace BW := Below.step BW b
  clear b
  have lf0 : ∀ s : Wd w25, s.w.cell? ⟨w1.heap.size, 0, none⟩ = some (.int .i64 16) := fun s => (zf.on s.below).cells.1
  have lf1 : ∀ s : Wd w25, s.w.cell? ⟨w1.heap.size, 1, none⟩ = some (.int .i64 11) := fun s => (zf.on s.below).cells.2.1
  have lf2 : ∀ s : Wd w25, s.w.cell? ⟨w1.heap.size, 2, none⟩ = some (.int .i64 5) := fun s => (zf.on s.below).cells.2.2.1
  have lf3 : ∀ s : Wd w25, s.w.cell? ⟨w5.heap.size, 0, none⟩ = some (.bool false) := fun s => (z0.on s.below).cells.1
  have lf4 : ∀ s : Wd w25, s.w.cell? ⟨w5.heap.size, 1, none⟩ = some (.slice V_r0 1 1) := fun s => (z0.on s.below).cells.2.1
  have lf5 : ∀ s : Wd w25, s.w.cell? ⟨w5.heap.size, 2, none⟩ = some (.int .i64 0) := fun s => (z0.on s.below).cells.2.2.1
  have lf6 : ∀ s : Wd w25, s.w.cell? ⟨w7.heap.size, 0, none⟩ = some (.bool false) := fun s => (z1.on s.below).cells.1
  have lf7 : ∀ s : Wd w25, s.w.cell? ⟨w7.heap.size, 1, none⟩ = some (.slice V_r1 v_r1 v_r1) := fun s => (z1.on s.below).cells.2.1
  have lf8 : ∀ s : Wd w25, s.w.cell? ⟨w7.heap.size, 2, none⟩ = some (.int .i64 (-24)) := fun s => (z1.on s.below).cells.2.2.1
  refine lex_plain 4 (by kernel_rfl) ?_
  dsimp only [List.take, List.drop]
  repeat go_big_quiet_step (fail)
  refine wpQuiet_nil ?_
  clear lf0 lf1 lf2 lf3 lf4 lf5 lf6 lf7 lf8
  refine lex_call (by kernel_rfl) (by kernel_rfl) (fun w26 b K hK => ?_)
  replace hT := hT.on b
  replace hF := hF.on b
  replace zf := zf.on b
  replace r0 := r0.on b
  replace z0 := z0.on b
  replace r1 := r1.on b
  replace z1 := z1.on b
  replace r6 := r6.on b
  replace BW := Below.step BW b
  clear b
  go_simp
  refine hK _ _ (Below.refl _ _) ?_
  clear hK K
  have lf0 : ∀ s : Wd w26, s.w.cell? ⟨w1.heap.size, 0, none⟩ = some (.int .i64 16) := fun s => (zf.on s.below).cells.1
  have lf1 : ∀ s : Wd w26, s.w.cell? ⟨w1.heap.size, 1, none⟩ = some (.int .i64 11) := fun s => (zf.on s.below).cells.2.1
  have lf2 : ∀ s : Wd w26, s.w.cell? ⟨w1.heap.size, 2, none⟩ = some (.int .i64 5) := fun s => (zf.on s.below).cells.2.2.1
  have lf3 : ∀ s : Wd w26, s.w.cell? ⟨w5.heap.size, 0, none⟩ = some (.bool false) := fun s => (z0.on s.below).cells.1
  have lf4 : ∀ s : Wd w26, s.w.cell? ⟨w5.heap.size, 1, none⟩ = some (.slice V_r0 1 1) := fun s => (z0.on s.below).cells.2.1
  have lf5 : ∀ s : Wd w26, s.w.cell? ⟨w5.heap.size, 2, none⟩ = some (.int .i64 0) := fun s => (z0.on s.below).cells.2.2.1
  have lf6 : ∀ s : Wd w26, s.w.cell? ⟨w7.heap.size, 0, none⟩ = some (.bool false) := fun s => (z1.on s.below).cells.1
  have lf7 : ∀ s : Wd w26, s.w.cell? ⟨w7.heap.size, 1, none⟩ = some (.slice V_r1 v_r1 v_r1) := fun s => (z1.on s.below).cells.2.1
  have lf8 : ∀ s : Wd w26, s.w.cell? ⟨w7.heap.size, 2, none⟩ = some (.int .i64 (-24)) := fun s => (z1.on s.below).cells.2.2.1
  refine lex_plain 37 (by kernel_rfl) ?_
  dsimp only [List.take, List.drop]
  repeat go_big_quiet_step (fail)
  refine wpQuiet_nil ?_
  clear lf0 lf1 lf2 lf3 lf4 lf5 lf6 lf7 lf8
  refine lex_call (by kernel_rfl) (by kernel_rfl) (fun w27 b K hK => ?_)
  replace hT := hT.on b
  replace hF := hF.on b
  replace zf := zf.on b
  replace r0 := r0.on b
  replace z0 := z0.on b
  replace r1 := r1.on b
  replace z1 := z1.on b
  replace r6 := r6.on b
  replace BW := Below.step BW b
  clear b
  go_simp
  refine (aw_c1 _).mono ?_
  rintro en w28 ⟨rfl, b⟩
  dsimp only
  refine hK _ _ b ?_
  clear hK K
  replace hT := hT.on b
  replace hF := hF.on b
  replace zf := zf.on b
  replace r0 := r0.on b
  replace z0 := z0.on b
  replace r1 := r1.on b
  replace z1 := z1.on b
  replace r6 := r6.on b
  replace BW := Below.step BW b
  clear b
  have lf0 : ∀ s : Wd w28, s.w.cell? ⟨w1.heap.size, 0, none⟩ = some (.int .i64 16) := fun s => (zf.on s.below).cells.1
  have lf1 : ∀ s : Wd w28, s.w.cell? ⟨w1.heap.size, 1, none⟩ = some (.int .i64 11) := fun s => (zf.on s.below).cells.2.1
  have lf2 : ∀ s : Wd w28, s.w.cell? ⟨w1.heap.size, 2, none⟩ = some (.int .i64 5) := fun s => (zf.on s.below).cells.2.2.1
  have lf3 : ∀ s : Wd w28, s.w.cell? ⟨w5.heap.size, 0, none⟩ = some (.bool false) := fun s => (z0.on s.below).cells.1
  have lf4 : ∀ s : Wd w28, s.w.cell? ⟨w5.heap.size, 1, none⟩ = some (.slice V_r0 1 1) := fun s => (z0.on s.below).cells.2.1
  have lf5 : ∀ s : Wd w28, s.w.cell? ⟨w5.heap.size, 2, none⟩ = some (.int .i64 0) := fun s => (z0.on s.below).cells.2.2.1
  have lf6 : ∀ s : Wd w28, s.w.cell? ⟨w7.heap.size, 0, none⟩ = some (.bool false) := fun s => (z1.on s.below).cells.1
  have lf7 : ∀ s : Wd w28, s.w.cell? ⟨w7.heap.size, 1, none⟩ = some (.slice V_r1 v_r1 v_r1) := fun s => (z1.on s.below).cells.2.1
  have lf8 : ∀ s : Wd w28, s.w.cell? ⟨w7.heap.size, 2, none⟩ = some (.int .i64 (-24)) := fun s => (z1.on s.below).cells.2.2.1
  refine lex_plain 4 (by kernel_rfl) ?_
  dsimp only [List.take, List.drop]
  repeat go_big_quiet_step (fail)
  refine wpQuiet_nil ?_
  clear lf0 lf1 lf2 lf3 lf4 lf5 lf6 lf7 lf8
  refine lex_call (by kernel_rfl) (by kernel_rfl) (fun w29 b K hK => ?_)
  replace hT := hT.on b
  replace hF := hF.on b
  replace zf := zf.on b
  replace r0 := r0.on b
  replace z0 := z0.on b
  replace r1 := r1.on b
  replace z1 := z1.on b
  replace r6 := r6.on b
  replace BW := Below.step BW b
  clear b
  go_simp
  refine (aw_c2 _).mono ?_
  rintro en w30 ⟨rfl, b⟩
  dsimp only
  refine hK _ _ b ?_
  clear hK K
  replace hT := hT.on b
  replace hF := hF.on b
  replace zf := zf.on b
  replace r0 := r0.on b
  replace z0 := z0.on b
  replace r1 := r1.on b
  replace z1 := z1.on b
  replace r6 := r6.on b
  replace BW := Below.step BW b
  clear b
  have lf0 : ∀ s : Wd w30, s.w.cell? ⟨w1.heap.size, 0, none⟩ = some (.int .i64 16) := fun s => (zf.on s.below).cells.1
  have lf1 : ∀ s : Wd w30, s.w.cell? ⟨w1.heap.size, 1, none⟩ = some (.int .i64 11) := fun s => (zf.on s.below).cells.2.1
  have lf2 : ∀ s : Wd w30, s.w.cell? ⟨w1.heap.size, 2, none⟩ = some (.int .i64 5) := fun s => (zf.on s.below).cells.2.2.1
  have lf3 : ∀ s : Wd w30, s.w.cell? ⟨w5.heap.size, 0, none⟩ = some (.bool false) := fun s => (z0.on s.below).cells.1
  have lf4 : ∀ s : Wd w30, s.w.cell? ⟨w5.heap.size, 1, none⟩ = some (.slice V_r0 1 1) := fun s => (z0.on s.below).cells.2.1
  have lf5 : ∀ s : Wd w30, s.w.cell? ⟨w5.heap.size, 2, none⟩ = some (.int .i64 0) := fun s => (z0.on s.below).cells.2.2.1
  have lf6 : ∀ s : Wd w30, s.w.cell? ⟨w7.heap.size, 0, none⟩ = some (.bool false) := fun s => (z1.on s.below).cells.1
  have lf7 : ∀ s : Wd w30, s.w.cell? ⟨w7.heap.size, 1, none⟩ = some (.slice V_r1 v_r1 v_r1) := fun s => (z1.on s.below).cells.2.1
  have lf8 : ∀ s : Wd w30, s.w.cell? ⟨w7.heap.size, 2, none⟩ = some (.int .i64 (-24)) := fun s => (z1.on s.below).cells.2.2.1
  refine lex_plain 4 (by kernel_rfl) ?_
  dsimp only [List.take, List.drop]
  repeat go_big_quiet_step (fail)
  refine wpQuiet_nil ?_
  clear lf0 lf1 lf2 lf3 lf4 lf5 lf6 lf7 lf8
  refine lex_call (by kernel_rfl) (by kernel_rfl) (fun w31 b K hK => ?_)
  replace hT := hT.on b
  replace hF := hF.on b
  replace zf := zf.on b
  replace r0 := r0.on b
  replace z0 := z0.on b
  replace r1 := r1.on b
  replace z1 := z1.on b
  replace r6 := r6.on b
  replace BW := Below.step BW b
  clear b
  go_simp
  refine (aw_c3 _).mono ?_
  rintro en w32 ⟨rfl, b⟩
  dsimp only
  refine hK _ _ b ?_
  clear hK K
  replace hT := hT.on b
  replace hF := hF.on b
  replace zf := zf.on b
  replace r0 := r0.on b
  replace z0 := z0.on b
  replace r1 := r1.on b
  replace z1 := z1.on b
  replace r6 := r6.on b
  replace BW := Below.step BW b
  clear b
  have lf0 : ∀ s : Wd w32, s.w.cell? ⟨w1.heap.size, 0, none⟩ = some (.int .i64 16) := fun s => (zf.on s.below).cells.1
  have lf1 : ∀ s : Wd w32, s.w.cell? ⟨w1.heap.size, 1, none⟩ = some (.int .i64 11) := fun s => (zf.on s.below).cells.2.1
  have lf2 : ∀ s : Wd w32, s.w.cell? ⟨w1.heap.size, 2, none⟩ = some (.int .i64 5) := fun s => (zf.on s.below).cells.2.2.1
  have lf3 : ∀ s : Wd w32, s.w.cell? ⟨w5.heap.size, 0, none⟩ = some (.bool false) := fun s => (z0.on s.below).cells.1
  have lf4 : ∀ s : Wd w32, s.w.cell? ⟨w5.heap.size, 1, none⟩ = some (.slice V_r0 1 1) := fun s => (z0.on s.below).cells.2.1
  have lf5 : ∀ s : Wd w32, s.w.cell? ⟨w5.heap.size, 2, none⟩ = some (.int .i64 0) := fun s => (z0.on s.below).cells.2.2.1
  have lf6 : ∀ s : Wd w32, s.w.cell? ⟨w7.heap.size, 0, none⟩ = some (.bool false) := fun s => (z1.on s.below).cells.1
  have lf7 : ∀ s : Wd w32, s.w.cell? ⟨w7.heap.size, 1, none⟩ = some (.slice V_r1 v_r1 v_r1) := fun s => (z1.on s.below).cells.2.1
  have lf8 : ∀ s : Wd w32, s.w.cell? ⟨w7.heap.size, 2, none⟩ = some (.int .i64 (-24)) := fun s => (z1.on s.below).cells.2.2.1
  refine lex_plain 4 (by kernel_rfl) ?_
  dsimp only [List.take, List.drop]
  repeat go_big_quiet_step (fail)
  refine wpQuiet_nil ?_
  clear lf0 lf1 lf2 lf3 lf4 lf5 lf6 lf7 lf8
  refine lex_call (by kernel_rfl) (by kernel_rfl) (fun w33 b K hK => ?_)
  replace hT := hT.on b
  replace hF := hF.on b
  replace zf := zf.on b
  replace r0 := r0.on b
  replace z0 := z0.on b
  replace r1 := r1.on b
  replace z1 := z1.on b
  replace r6 := r6.on b
  replace BW := Below.step BW b
  clear b
  go_simp
  refine (aw_neg _).mono ?_
  rintro en w34 ⟨rfl, b⟩
  dsimp only
  refine hK _ _ b ?_
  clear hK K
  replace hT := hT.on b
  replace hF := hF.on b
  replace zf := zf.on b
  replace r0 := r0.on b
  replace z0 := z0.on b
  replace r1 := r1.on b
  replace z1 := z1.on b
  replace r6 := r6.on b
  replace BW := Below.step BW b
  clear b
  have lf0 : ∀ s : Wd w34, s.w.cell? ⟨w1.heap.size, 0, none⟩ = some (.int .i64 16) := fun s => (zf.on s.below).cells.1
  have lf1 : ∀ s : Wd w34, s.w.cell? ⟨w1.heap.size, 1, none⟩ = some (.int .i64 11) := fun s => (zf.on s.below).cells.2.1
  have lf2 : ∀ s : Wd w34, s.w.cell? ⟨w1.heap.size, 2, none⟩ = some (.int .i64 5) := fun s => (zf.on s.below).cells.2.2.1
  have lf3 : ∀ s : Wd w34, s.w.cell? ⟨w5.heap.size, 0, none⟩ = some (.bool false) := fun s => (z0.on s.below).cells.1
  have lf4 : ∀ s : Wd w34, s.w.cell? ⟨w5.heap.size, 1, none⟩ = some (.slice V_r0 1 1) := fun s => (z0.on s.below).cells.2.1
  have lf5 : ∀ s : Wd w34, s.w.cell? ⟨w5.heap.size, 2, none⟩ = some (.int .i64 0) := fun s => (z0.on s.below).cells.2.2.1
  have lf6 : ∀ s : Wd w34, s.w.cell? ⟨w7.heap.size, 0, none⟩ = some (.bool false) := fun s => (z1.on s.below).cells.1
  have lf7 : ∀ s : Wd w34, s.w.cell? ⟨w7.heap.size, 1, none⟩ = some (.slice V_r1 v_r1 v_r1) := fun s => (z1.on s.below).cells.2.1
  have lf8 : ∀ s : Wd w34, s.w.cell? ⟨w7.heap.size, 2, none⟩ = some (.int .i64 (-24)) := fun s => (z1.on s.below).cells.2.2.1
  refine lex_plain 3 (by kernel_rfl) ?_
  dsimp only [List.take, List.drop]
  repeat go_big_quiet_step (fail)
  refine wpQuiet_nil ?_
  clear lf0 lf1 lf2 lf3 lf4 lf5 lf6 lf7 lf8
  refine lex_call (by kernel_rfl) (by kernel_rfl) (fun w35 b K hK => ?_)
  replace hT := hT.on b
  replace hF := hF.on b
  replace zf := zf.on b
  replace r0 := r0.on b
  replace z0 := z0.on b
  replace r1 := r1.on b
  replace z1 := z1.on b
  replace r6 := r6.on b
  replace BW := Below.step BW b
  clear b
  go_simp
  refine (aw_m1 _).mono ?_
  rintro en w36 ⟨rfl, b⟩
  dsimp only
  refine hK _ _ b ?_
  clear hK K
  replace hT := hT.on b
  replace hF := hF.on b
  replace zf := zf.on b
  replace r0 := r0.on b
  replace z0 := z0.on b
  replace r1 := r1.on b
  replace z1 := z1.on b
  replace r6 := r6.on b
  replace BW := Below.step BW b
  clear b
  have lf0 : ∀ s : Wd w36, s.w.cell? ⟨w1.heap.size, 0, none⟩ = some (.int .i64 16) := fun s => (zf.on s.below).cells.1
  have lf1 : ∀ s : Wd w36, s.w.cell? ⟨w1.heap.size, 1, none⟩ = some (.int .i64 11) := fun s => (zf.on s.below).cells.2.1
  have lf2 : ∀ s : Wd w36, s.w.cell? ⟨w1.heap.size, 2, none⟩ = some (.int .i64 5) := fun s => (zf.on s.below).cells.2.2.1
  have lf3 : ∀ s : Wd w36, s.w.cell? ⟨w5.heap.size, 0, none⟩ = some (.bool false) := fun s => (z0.on s.below).cells.1
  have lf4 : ∀ s : Wd w36, s.w.cell? ⟨w5.heap.size, 1, none⟩ = some (.slice V_r0 1 1) := fun s => (z0.on s.below).cells.2.1
  have lf5 : ∀ s : Wd w36, s.w.cell? ⟨w5.heap.size, 2, none⟩ = some (.int .i64 0) := fun s => (z0.on s.below).cells.2.2.1
  have lf6 : ∀ s : Wd w36, s.w.cell? ⟨w7.heap.size, 0, none⟩ = some (.bool false) := fun s => (z1.on s.below).cells.1
  have lf7 : ∀ s : Wd w36, s.w.cell? ⟨w7.heap.size, 1, none⟩ = some (.slice V_r1 v_r1 v_r1) := fun s => (z1.on s.below).cells.2.1
  have lf8 : ∀ s : Wd w36, s.w.cell? ⟨w7.heap.size, 2, none⟩ = some (.int .i64 (-24)) := fun s => (z1.on s.below).cells.2.2.1
  refine lex_plain 3 (by kernel_rfl) ?_
  dsimp only [List.take, List.drop]
  repeat go_big_quiet_step (fail)
  refine wpQuiet_nil ?_
  clear lf0 lf1 lf2 lf3 lf4 lf5 lf6 lf7 lf8
  refine lex_call (by kernel_rfl) (by kernel_rfl) (fun w37 b K hK => ?_)
  replace hT := hT.on b
  replace hF := hF.on b
  replace zf := zf.on b
  replace r0 := r0.on b
  replace z0 := z0.on b
  replace r1 := r1.on b
  replace z1 := z1.on b
  replace r6 := r6.on b
  replace BW := Below.step BW b
  clear b
  go_simp
  refine (aw_m2 _).mono ?_
  rintro en w38 ⟨rfl, b⟩
  dsimp only
  refine hK _ _ b ?_
  clear hK K
  replace hT := hT.on b
  replace hF := hF.on b
  replace zf := zf.on b
  replace r0 := r0.on b
  replace z0 := z0.on b
  replace r1 := r1.on b
  replace z1 := z1.on b
  replace r6 := r6.on b
  replace BW := Below.step BW b
  clear b
  have lf0 : ∀ s : Wd w38, s.w.cell? ⟨w1.heap.size, 0, none⟩ = some (.int .i64 16) := fun s => (zf.on s.below).cells.1
  have lf1 : ∀ s : Wd w38, s.w.cell? ⟨w1.heap.size, 1, none⟩ = some (.int .i64 11) := fun s => (zf.on s.below).cells.2.1
  have lf2 : ∀ s : Wd w38, s.w.cell? ⟨w1.heap.size, 2, none⟩ = some (.int .i64 5) := fun s => (zf.on s.below).cells.2.2.1
  have lf3 : ∀ s : Wd w38, s.w.cell? ⟨w5.heap.size, 0, none⟩ = some (.bool false) := fun s => (z0.on s.below).cells.1
  have lf4 : ∀ s : Wd w38, s.w.cell? ⟨w5.heap.size, 1, none⟩ = some (.slice V_r0 1 1) := fun s => (z0.on s.below).cells.2.1
  have lf5 : ∀ s : Wd w38, s.w.cell? ⟨w5.heap.size, 2, none⟩ = some (.int .i64 0) := fun s => (z0.on s.below).cells.2.2.1
  have lf6 : ∀ s : Wd w38, s.w.cell? ⟨w7.heap.size, 0, none⟩ = some (.bool false) := fun s => (z1.on s.below).cells.1
  have lf7 : ∀ s : Wd w38, s.w.cell? ⟨w7.heap.size, 1, none⟩ = some (.slice V_r1 v_r1 v_r1) := fun s => (z1.on s.below).cells.2.1
  have lf8 : ∀ s : Wd w38, s.w.cell? ⟨w7.heap.size, 2, none⟩ = some (.int .i64 (-24)) := fun s => (z1.on s.below).cells.2.2.1
  refine lex_plain 4 (by kernel_rfl) ?_
  dsimp only [List.take, List.drop]
  repeat go_big_quiet_step (fail)
  refine wpQuiet_nil ?_
  clear lf0 lf1 lf2 lf3 lf4 lf5 lf6 lf7 lf8
  refine lex_call (by kernel_rfl) (by kernel_rfl) (fun w39 b K hK => ?_)
  replace hT := hT.on b
  replace hF := hF.on b
  replace zf := zf.on b
  replace r0 := r0.on b
  replace z0 := z0.on b
  replace r1 := r1.on b
  replace z1 := z1.on b
  replace r6 := r6.on b
  replace BW := Below.step BW b
  clear b
  go_simp
  refine (aw_inf _).mono ?_
  rintro en w40 ⟨rfl, b⟩
  dsimp only
  refine hK _ _ b ?_
  clear hK K
  replace hT := hT.on b
  replace hF := hF.on b
  replace zf := zf.on b
  replace r0 := r0.on b
  replace z0 := z0.on b
  replace r1 := r1.on b
  replace z1 := z1.on b
  replace r6 := r6.on b
  replace BW := Below.step BW b
  clear b
  have lf0 : ∀ s : Wd w40, s.w.cell? ⟨w1.heap.size, 0, none⟩ = some (.int .i64 16) := fun s => (zf.on s.below).cells.1
  have lf1 : ∀ s : Wd w40, s.w.cell? ⟨w1.heap.size, 1, none⟩ = some (.int .i64 11) := fun s => (zf.on s.below).cells.2.1
  have lf2 : ∀ s : Wd w40, s.w.cell? ⟨w1.heap.size, 2, none⟩ = some (.int .i64 5) := fun s => (zf.on s.below).cells.2.2.1
  have lf3 : ∀ s : Wd w40, s.w.cell? ⟨w5.heap.size, 0, none⟩ = some (.bool false) := fun s => (z0.on s.below).cells.1
  have lf4 : ∀ s : Wd w40, s.w.cell? ⟨w5.heap.size, 1, none⟩ = some (.slice V_r0 1 1) := fun s => (z0.on s.below).cells.2.1
  have lf5 : ∀ s : Wd w40, s.w.cell? ⟨w5.heap.size, 2, none⟩ = some (.int .i64 0) := fun s => (z0.on s.below).cells.2.2.1
  have lf6 : ∀ s : Wd w40, s.w.cell? ⟨w7.heap.size, 0, none⟩ = some (.bool false) := fun s => (z1.on s.below).cells.1
  have lf7 : ∀ s : Wd w40, s.w.cell? ⟨w7.heap.size, 1, none⟩ = some (.slice V_r1 v_r1 v_r1) := fun s => (z1.on s.below).cells.2.1
  have lf8 : ∀ s : Wd w40, s.w.cell? ⟨w7.heap.size, 2, none⟩ = some (.int .i64 (-24)) := fun s => (z1.on s.below).cells.2.2.1
  refine lex_plain 4 (by kernel_rfl) ?_
  dsimp only [List.take, List.drop]
  repeat go_big_quiet_step (fail)
  refine wpQuiet_nil ?_
  clear lf0 lf1 lf2 lf3 lf4 lf5 lf6 lf7 lf8
  refine lex_call (by kernel_rfl) (by kernel_rfl) (fun w41 b K hK => ?_)
  replace hT := hT.on b
  replace hF := hF.on b
  replace zf := zf.on b
  replace r0 := r0.on b
  replace z0 := z0.on b
  replace r1 := r1.on b
  replace z1 := z1.on b
  replace r6 := r6.on b
  replace BW := Below.step BW b
  clear b
  go_simp
  refine (aw_gr _).mono ?_
  rintro en w42 ⟨rfl, b⟩
  dsimp only
  refine hK _ _ b ?_
  clear hK K
  replace hT := hT.on b
  replace hF := hF.on b
  replace zf := zf.on b
  replace r0 := r0.on b
  replace z0 := z0.on b
  replace r1 := r1.on b
  replace z1 := z1.on b
  replace r6 := r6.on b
  replace BW := Below.step BW b
  clear b
  have lf0 : ∀ s : Wd w42, s.w.cell? ⟨w1.heap.size, 0, none⟩ = some (.int .i64 16) := fun s => (zf.on s.below).cells.1
  have lf1 : ∀ s : Wd w42, s.w.cell? ⟨w1.heap.size, 1, none⟩ = some (.int .i64 11) := fun s => (zf.on s.below).cells.2.1
  have lf2 : ∀ s : Wd w42, s.w.cell? ⟨w1.heap.size, 2, none⟩ = some (.int .i64 5) := fun s => (zf.on s.below).cells.2.2.1
  have lf3 : ∀ s : Wd w42, s.w.cell? ⟨w5.heap.size, 0, none⟩ = some (.bool false) := fun s => (z0.on s.below).cells.1
  have lf4 : ∀ s : Wd w42, s.w.cell? ⟨w5.heap.size, 1, none⟩ = some (.slice V_r0 1 1) := fun s => (z0.on s.below).cells.2.1
  have lf5 : ∀ s : Wd w42, s.w.cell? ⟨w5.heap.size, 2, none⟩ = some (.int .i64 0) := fun s => (z0.on s.below).cells.2.2.1
  have lf6 : ∀ s : Wd w42, s.w.cell? ⟨w7.heap.size, 0, none⟩ = some (.bool false) := fun s => (z1.on s.below).cells.1
  have lf7 : ∀ s : Wd w42, s.w.cell? ⟨w7.heap.size, 1, none⟩ = some (.slice V_r1 v_r1 v_r1) := fun s => (z1.on s.below).cells.2.1
  have lf8 : ∀ s : Wd w42, s.w.cell? ⟨w7.heap.size, 2, none⟩ = some (.int .i64 (-24)) := fun s => (z1.on s.below).cells.2.2.1
  refine lex_plain 4 (by kernel_rfl) ?_
  dsimp only [List.take, List.drop]
  repeat go_big_quiet_step (fail)
  refine wpQuiet_nil ?_
  clear lf0 lf1 lf2 lf3 lf4 lf5 lf6 lf7 lf8
  refine lex_call (by kernel_rfl) (by kernel_rfl) (fun w43 b K hK => ?_)
  replace hT := hT.on b
  replace hF := hF.on b
  replace zf := zf.on b
  replace r0 := r0.on b
  replace z0 := z0.on b
  replace r1 := r1.on b
  replace z1 := z1.on b
  replace r6 := r6.on b
  replace BW := Below.step BW b
  clear b
  go_simp
  refine (aw_no _).mono ?_
  rintro en w44 ⟨rfl, b⟩
  dsimp only
  refine hK _ _ b ?_
  clear hK K
  replace hT := hT.on b
  replace hF := hF.on b
  replace zf := zf.on b
  replace r0 := r0.on b
  replace z0 := z0.on b
  replace r1 := r1.on b
  replace z1 := z1.on b
  replace r6 := r6.on b
  replace BW := Below.step BW b
  clear b
  have lf0 : ∀ s : Wd w44, s.w.cell? ⟨w1.heap.size, 0, none⟩ = some (.int .i64 16) := fun s => (zf.on s.below).cells.1
  have lf1 : ∀ s : Wd w44, s.w.cell? ⟨w1.heap.size, 1, none⟩ = some (.int .i64 11) := fun s => (zf.on s.below).cells.2.1
  have lf2 : ∀ s : Wd w44, s.w.cell? ⟨w1.heap.size, 2, none⟩ = some (.int .i64 5) := fun s => (zf.on s.below).cells.2.2.1
  have lf3 : ∀ s : Wd w44, s.w.cell? ⟨w5.heap.size, 0, none⟩ = some (.bool false) := fun s => (z0.on s.below).cells.1
  have lf4 : ∀ s : Wd w44, s.w.cell? ⟨w5.heap.size, 1, none⟩ = some (.slice V_r0 1 1) := fun s => (z0.on s.below).cells.2.1
  have lf5 : ∀ s : Wd w44, s.w.cell? ⟨w5.heap.size, 2, none⟩ = some (.int .i64 0) := fun s => (z0.on s.below).cells.2.2.1
  have lf6 : ∀ s : Wd w44, s.w.cell? ⟨w7.heap.size, 0, none⟩ = some (.bool false) := fun s => (z1.on s.below).cells.1
  have lf7 : ∀ s : Wd w44, s.w.cell? ⟨w7.heap.size, 1, none⟩ = some (.slice V_r1 v_r1 v_r1) := fun s => (z1.on s.below).cells.2.1
  have lf8 : ∀ s : Wd w44, s.w.cell? ⟨w7.heap.size, 2, none⟩ = some (.int .i64 (-24)) := fun s => (z1.on s.below).cells.2.2.1
  refine lex_plain 4 (by kernel_rfl) ?_
  dsimp only [List.take, List.drop]
  repeat go_big_quiet_step (fail)
  refine wpQuiet_nil ?_
  clear lf0 lf1 lf2 lf3 lf4 lf5 lf6 lf7 lf8
  refine lex_call (by kernel_rfl) (by kernel_rfl) (fun w45 b K hK => ?_)
  replace hT := hT.on b
  replace hF := hF.on b
  replace zf := zf.on b
  replace r0 := r0.on b
  replace z0 := z0.on b
  replace r1 := r1.on b
  replace z1 := z1.on b
  replace r6 := r6.on b
  replace BW := Below.step BW b
  clear b
  go_simp
  refine (aw_none _).mono ?_
  rintro en w46 ⟨rfl, b⟩
  dsimp only
  refine hK _ _ b ?_
  clear hK K
  replace hT := hT.on b
  replace hF := hF.on b
  replace zf := zf.on b
  replace r0 := r0.on b
  replace z0 := z0.on b
  replace r1 := r1.on b
  replace z1 := z1.on b
  replace r6 := r6.on b
  replace BW := Below.step BW b
  clear b
  have lf0 : ∀ s : Wd w46, s.w.cell? ⟨w1.heap.size, 0, none⟩ = some (.int .i64 16) := fun s => (zf.on s.below).cells.1
  have lf1 : ∀ s : Wd w46, s.w.cell? ⟨w1.heap.size, 1, none⟩ = some (.int .i64 11) := fun s => (zf.on s.below).cells.2.1
  have lf2 : ∀ s : Wd w46, s.w.cell? ⟨w1.heap.size, 2, none⟩ = some (.int .i64 5) := fun s => (zf.on s.below).cells.2.2.1
  have lf3 : ∀ s : Wd w46, s.w.cell? ⟨w5.heap.size, 0, none⟩ = some (.bool false) := fun s => (z0.on s.below).cells.1
  have lf4 : ∀ s : Wd w46, s.w.cell? ⟨w5.heap.size, 1, none⟩ = some (.slice V_r0 1 1) := fun s => (z0.on s.below).cells.2.1
  have lf5 : ∀ s : Wd w46, s.w.cell? ⟨w5.heap.size, 2, none⟩ = some (.int .i64 0) := fun s => (z0.on s.below).cells.2.2.1
  have lf6 : ∀ s : Wd w46, s.w.cell? ⟨w7.heap.size, 0, none⟩ = some (.bool false) := fun s => (z1.on s.below).cells.1
  have lf7 : ∀ s : Wd w46, s.w.cell? ⟨w7.heap.size, 1, none⟩ = some (.slice V_r1 v_r1 v_r1) := fun s => (z1.on s.below).cells.2.1
  have lf8 : ∀ s : Wd w46, s.w.cell? ⟨w7.heap.size, 2, none⟩ = some (.int .i64 (-24)) := fun s => (z1.on s.below).cells.2.2.1
  refine lex_plain 4 (by kernel_rfl) ?_
  dsimp only [List.take, List.drop]
  repeat go_big_quiet_step (fail)
  refine wpQuiet_nil ?_
  clear lf0 lf1 lf2 lf3 lf4 lf5 lf6 lf7 lf8
  refine lex_call (by kernel_rfl) (by kernel_rfl) (fun w47 b K hK => ?_)
  replace hT := hT.on b
  replace hF := hF.on b
  replace zf := zf.on b
  replace r0 := r0.on b
  replace z0 := z0.on b
  replace r1 := r1.on b
  replace z1 := z1.on b
  replace r6 := r6.on b
  replace BW := Below.step BW b
  clear b
  go_simp
  refine (aw_q _).mono ?_
  rintro en w48 ⟨rfl, b⟩
  dsimp only
  refine hK _ _ b ?_
  clear hK K
  replace hT := hT.on b
  replace hF := hF.on b
  replace zf := zf.on b
  replace r0 := r0.on b
  replace z0 := z0.on b
  replace r1 := r1.on b
  replace z1 := z1.on b
  replace r6 := r6.on b
  replace BW := Below.step BW b
  clear b
  have lf0 : ∀ s : Wd w48, s.w.cell? ⟨w1.heap.size, 0, none⟩ = some (.int .i64 16) := fun s => (zf.on s.below).cells.1
  have lf1 : ∀ s : Wd w48, s.w.cell? ⟨w1.heap.size, 1, none⟩ = some (.int .i64 11) := fun s => (zf.on s.below).cells.2.1
  have lf2 : ∀ s : Wd w48, s.w.cell? ⟨w1.heap.size, 2, none⟩ = some (.int .i64 5) := fun s => (zf.on s.below).cells.2.2.1
  have lf3 : ∀ s : Wd w48, s.w.cell? ⟨w5.heap.size, 0, none⟩ = some (.bool false) := fun s => (z0.on s.below).cells.1
  have lf4 : ∀ s : Wd w48, s.w.cell? ⟨w5.heap.size, 1, none⟩ = some (.slice V_r0 1 1) := fun s => (z0.on s.below).cells.2.1
  have lf5 : ∀ s : Wd w48, s.w.cell? ⟨w5.heap.size, 2, none⟩ = some (.int .i64 0) := fun s => (z0.on s.below).cells.2.2.1
  have lf6 : ∀ s : Wd w48, s.w.cell? ⟨w7.heap.size, 0, none⟩ = some (.bool false) := fun s => (z1.on s.below).cells.1
  have lf7 : ∀ s : Wd w48, s.w.cell? ⟨w7.heap.size, 1, none⟩ = some (.slice V_r1 v_r1 v_r1) := fun s => (z1.on s.below).cells.2.1
  have lf8 : ∀ s : Wd w48, s.w.cell? ⟨w7.heap.size, 2, none⟩ = some (.int .i64 (-24)) := fun s => (z1.on s.below).cells.2.2.1
  refine lex_plain 3 (by kernel_rfl) ?_
  dsimp only [List.take, List.drop]
  repeat go_big_quiet_step (fail)
  refine wpQuiet_nil ?_
  clear lf0 lf1 lf2 lf3 lf4 lf5 lf6 lf7 lf8
  refine lex_nil (fun w49 b => ?_)
  replace hT := hT.on b
  replace hF := hF.on b
  replace zf := zf.on b
  replace r0 := r0.on b
  replace z0 := z0.on b
  replace r1 := r1.on b
  replace z1 := z1.on b
  replace r6 := r6.on b
  replace BW := Below.step BW b
  clear b
  dsimp only [NoPanic]
  go_wp2_with fail
  go_ret
  exact ⟨rfl, BW⟩
end Go.Proofs.YtflicmdgijghaaaDoor
