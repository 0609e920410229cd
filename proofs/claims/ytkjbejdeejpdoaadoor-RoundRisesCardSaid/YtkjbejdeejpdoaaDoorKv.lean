
/-
  The walk of the laws' value.
-/
import Derived.Test.YtkjbejdeejpdoaaDoorKw
import Derived.Test.YtkjbejdeejpdoaaDoorRme
namespace Go.Proofs.YtkjbejdeejpdoaaDoor
open Go.RowKit
set_option linter.unusedVariables false

theorem val_inf_walk {B P W M E H : Nat} {low : Int} (hf : Fm B P W M E H low) (b : Nat) (hb : b < 18446744073709551616) {w : World} (hT : Tab w) (s : Bool) (hn : decide (b / H % 2 = 1) = s) (q : Int) (hc : clsS M E b = q) (d1 : (q == 3) = true) :
    Calls Tryd.prog 22 #[.agg #[.int .i64 (B : Int), .int .i64 (P : Int), .int .i64 (W : Int)], .int .u64 (b : Int)] w (PlX w s 1 5000) := by
  have HC := Lib.hid hc
  have HN := Lib.hid hn
  clear hc hn
  go_enter Tryd.func22, Tryd.ntmps22
  go_wp2_with fail
  obtain ⟨V, hV, z0, z1, BW, sW⟩ := fframe2 w 28 25 (B : Int) (P : Int) (W : Int) false none 0 0 0
  rw [hV]
  clear hV sW
  replace hT := hT.on BW
  refine (class_as hf b q hb HC.out _).mono ?_
  rintro en w1 ⟨rfl, b⟩
  replace z0 := z0.on b
  replace z1 := z1.on b
  replace hT := hT.on b
  replace BW := Below.step BW b
  clear b
  obtain ⟨z0c0, z0c1, z0c2, z0f0, z0f1, z0f2, z0l⟩ := z0.cells
  obtain ⟨z1c0, z1c1, z1c2, z1f0, z1f1, z1f2, z1l⟩ := z1.cells
  go_wp2_with fail
  refine (fneg_as hf b hb s HN.out _).mono ?_
  rintro en w2 ⟨rfl, b⟩
  clear z0c0 z0c1 z0c2 z0f0 z0f1 z0f2 z0l z1c0 z1c1 z1c2 z1f0 z1f1 z1f2 z1l
  replace z0 := z0.on b
  replace z1 := z1.on b
  replace hT := hT.on b
  replace BW := Below.step BW b
  clear b
  obtain ⟨z0c0, z0c1, z0c2, z0f0, z0f1, z0f2, z0l⟩ := z0.cells
  obtain ⟨z1c0, z1c1, z1c2, z1f0, z1f1, z1f2, z1l⟩ := z1.cells
  go_wp2_with fail
  refine (aw_one _).mono ?_
  rintro en w3 ⟨V_r, v_r, rfl, r, b⟩
  clear z0c0 z0c1 z0c2 z0f0 z0f1 z0f2 z0l z1c0 z1c1 z1c2 z1f0 z1f1 z1f2 z1l
  replace z0 := z0.on b
  replace z1 := z1.on b
  replace hT := hT.on b
  replace BW := Below.step BW b
  clear b
  obtain ⟨z0c0, z0c1, z0c2, z0f0, z0f1, z0f2, z0l⟩ := z0.cells
  obtain ⟨z1c0, z1c1, z1c2, z1f0, z1f1, z1f2, z1l⟩ := z1.cells
  go_wp2_with fail
  clear z0c0 z0c1 z0c2 z0f0 z0f1 z0f2 z0l z1c0 z1c1 z1c2 z1f0 z1f1 z1f2 z1l
  have y2 := z1.put_d s V_r v_r v_r 5000
  have yl := z1.res r (.bool s) (.slice V_r v_r v_r) (.int .i64 5000)
  have yb := below_put3 BW (show w.heap.size ≤ w.heap.size + 1 by omega) (.bool s) (.slice V_r v_r v_r) (.int .i64 5000)
  obtain ⟨p0, p1, p2, _⟩ := y2.cells
  refine bodyPost_ret (v := .agg #[.bool s, .slice V_r v_r v_r, .int .i64 5000]) (by simp [results, Tryd.results22, go_sem, p0, p1, p2]) rfl ?_
  exact ⟨_, _, rfl, yl, yb⟩
theorem val_fin_walk {B P W M E H : Nat} {low : Int} (hf : Fm B P W M E H low) (b : Nat) (hb : b < 18446744073709551616) {w : World} (hT : Tab w) (q : Int) (hc : clsS M E b = q) (d1 : (q == 3) = false) {vn : Bool} {vx : Nat} {ve err : Int} (hv : valS M E H low b = (⟨vn, vx, ve⟩, err)) :
    Calls Tryd.prog 22 #[.agg #[.int .i64 (B : Int), .int .i64 (P : Int), .int .i64 (W : Int)], .int .u64 (b : Int)] w (PlX w vn vx ve) := by
  have HC := Lib.hid hc
  have HV := Lib.hid hv
  clear hc hv
  go_enter Tryd.func22, Tryd.ntmps22
  go_wp2_with fail
  obtain ⟨V, hV, z0, z1, BW, sW⟩ := fframe2 w 28 25 (B : Int) (P : Int) (W : Int) false none 0 0 0
  rw [hV]
  clear hV sW
  replace hT := hT.on BW
  refine (class_as hf b q hb HC.out _).mono ?_
  rintro en w1 ⟨rfl, b⟩
  replace z0 := z0.on b
  replace z1 := z1.on b
  replace hT := hT.on b
  replace BW := Below.step BW b
  clear b
  obtain ⟨z0c0, z0c1, z0c2, z0f0, z0f1, z0f2, z0l⟩ := z0.cells
  obtain ⟨z1c0, z1c1, z1c2, z1f0, z1f1, z1f2, z1l⟩ := z1.cells
  go_wp2_with fail
  refine (value_as hf b hb hT HV.out).mono ?_
  rintro en w2 ⟨V_r, v_r, rfl, r, b⟩
  clear z0c0 z0c1 z0c2 z0f0 z0f1 z0f2 z0l z1c0 z1c1 z1c2 z1f0 z1f1 z1f2 z1l
  replace z0 := z0.on b
  replace z1 := z1.on b
  replace hT := hT.on b
  replace BW := Below.step BW b
  clear b
  obtain ⟨z0c0, z0c1, z0c2, z0f0, z0f1, z0f2, z0l⟩ := z0.cells
  obtain ⟨z1c0, z1c1, z1c2, z1f0, z1f1, z1f2, z1l⟩ := z1.cells
  go_wp2_with fail
  clear z0c0 z0c1 z0c2 z0f0 z0f1 z0f2 z0l z1c0 z1c1 z1c2 z1f0 z1f1 z1f2 z1l
  have y2 := z1.put_d vn V_r v_r v_r ve
  have yl := z1.res r (.bool vn) (.slice V_r v_r v_r) (.int .i64 ve)
  have yb := below_put3 BW (show w.heap.size ≤ w.heap.size + 1 by omega) (.bool vn) (.slice V_r v_r v_r) (.int .i64 ve)
  replace y2 := y2.on (below_lit _ (dob vn V_r v_r v_r ve 25))
  replace yl := yl.on (below_lit _ (dob vn V_r v_r v_r ve 25))
  replace yb := below_k yb (dob vn V_r v_r v_r ve 25)
  obtain ⟨p0, p1, p2, _⟩ := y2.cells
  refine bodyPost_ret (v := .agg #[.bool vn, .slice V_r v_r v_r, .int .i64 ve]) (by simp [results, Tryd.results22, go_sem, p0, p1, p2]) rfl ?_
  exact ⟨_, _, rfl, yl, yb⟩
/-- THE LAWS' VALUE of a rounded number's bits. -/
theorem lvalue_as {B P W M E H : Nat} {low : Int} (hf : Fm B P W M E H low) (s : Bool) (k : Nat) (hk : k ≤ M * E) {b : Nat} (hb : sgn H s k = b) : ∃ (vn : Bool) (vx : Nat) (ve : Int), D.may ⟨vn, vx, ve⟩ = true ∧ (⟨vn, vx, ve⟩ : D).vl = svl M E low BIG s k ∧
    ∀ w : World, Tab w → Calls Tryd.prog 22 #[.agg #[.int .i64 (B : Int), .int .i64 (P : Int), .int .i64 (W : Int)], .int .u64 (b : Int)] w (PlX w vn vx ve) := by
  obtain ⟨b1, b2, b3, b4, b5, b6, b7, b8, b9, b10, b11, b12, b13, b14, b15⟩ := hf.bd
  have hME := ME_lt hf
  obtain ⟨s1, s2, s3, s4, s5, s6⟩ := sgn_parts hf s k (by omega)
  rw [hb] at s1 s2 s3 s4
  have hb64 : b < 18446744073709551616 := by omega
  by_cases he : k = M * E
  · subst he
    refine ⟨s, 1, 5000, may_small (by show 1 < 18446744073709551616; omega) (by show (-8192 : Int) ≤ 5000; omega) (by show (5000 : Int) ≤ 8192; omega), ?_, fun w hT => val_inf_walk hf b hb64 hT s s3 3 ?_ rfl⟩
    · rw [inf_vl]
      unfold svl szC
      rw [if_pos rfl]
    · unfold clsS
      rw [s1, s2, Nat.mul_div_cancel_left _ (by omega), if_neg (by omega), if_neg (by simp), Nat.mul_mod_right, if_pos rfl]
  · have hk2 : k < M * E := by omega
    obtain ⟨v1, v2⟩ := val_abs hf s k hk2
    rw [hb] at v1
    obtain ⟨vn, vx, ve, hd⟩ : ∃ vn vx ve, D.pl ⟨s, valN M E k, valP M E low k⟩ = ⟨vn, vx, ve⟩ := ⟨_, _, _, rfl⟩
    rw [hd] at v1 v2
    have hm := (val_may hf k s).2
    rw [hd] at hm
    refine ⟨vn, vx, ve, hm, ?_, fun w hT => val_fin_walk hf b hb64 hT (clsS M E b) rfl ?_ v1⟩
    · rw [v2]
      unfold svl szC
      rw [if_neg he]
    · have hq : b / M % (E + 1) ≠ E := by
        rw [s2]
        have := (Nat.div_lt_iff_lt_mul (k := M) (x := k) (y := E) (by omega)).2 (by rw [Nat.mul_comm]; exact hk2)
        omega
      by_cases h0 : b / M % (E + 1) = 0
      · rcases cls_sub h0 with h | h <;> rw [h] <;> rfl
      · rw [cls_norm h0 hq]; rfl
end Go.Proofs.YtkjbejdeejpdoaaDoor
