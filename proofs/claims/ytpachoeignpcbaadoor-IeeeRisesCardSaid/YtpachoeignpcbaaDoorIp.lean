
/-
  A sum with a greater number is no less, nor is a product by a number that isn't below 0; the walk of the law IeeeRises.
-/
import Derived.Test.YtpachoeignpcbaaDoorIo
namespace Go.Proofs.YtpachoeignpcbaaDoor
open Go.RowKit
set_option linter.unusedVariables false

/-- block g begins with three numbers. -/
def R9 (w : World) (g : Nat) (n0 : Bool) (V0 : Option Addr) (v0 : Nat) (e0 : Int) (n1 : Bool) (V1 : Option Addr) (v1 : Nat) (e1 : Int) (n2 : Bool) : Prop :=
  ∃ cur, w.heap[g]? = some (.cells cur 39 (0, 0)) ∧ cur.toList.take 7 = [.bool n0, .slice V0 v0 v0, .int .i64 e0, .bool n1, .slice V1 v1 v1, .int .i64 e1, .bool n2]
section
variable {w w' : World} {g : Nat} {n0 n1 n2 : Bool} {V0 V1 : Option Addr} {v0 v1 : Nat} {e0 e1 : Int}
theorem R9.on (h : R9 w g n0 V0 v0 e0 n1 V1 v1 e1 n2) (hb : Below w.heap.size w w') : R9 w' g n0 V0 v0 e0 n1 V1 v1 e1 n2 := by
  obtain ⟨cur, h1, h2⟩ := h
  exact ⟨cur, (hb.block g (Array.getElem?_eq_some_iff.1 h1).1).trans h1, h2⟩
theorem R9.cell (h : R9 w g n0 V0 v0 e0 n1 V1 v1 e1 n2) (i : Nat) (u : Value) (hi : [.bool n0, .slice V0 v0 v0, .int .i64 e0, .bool n1, .slice V1 v1 v1, .int .i64 e1, .bool n2][i]? = some u) : w.cell? ⟨g, i, none⟩ = some u := by
  obtain ⟨cur, h1, h2⟩ := h
  rw [cell_of_row w g i cur _ (0, 0) h1]
  rw [← h2, List.getElem?_take] at hi
  split at hi
  · simpa using hi
  · cases hi
theorem R9.cells (h : R9 w g n0 V0 v0 e0 n1 V1 v1 e1 n2) : w.cell? ⟨g, 0, none⟩ = some (.bool n0) ∧ w.cell? ⟨g, 1, none⟩ = some (.slice V0 v0 v0) ∧ w.cell? ⟨g, 2, none⟩ = some (.int .i64 e0) ∧ w.cell? ⟨g, 3, none⟩ = some (.bool n1) ∧ w.cell? ⟨g, 4, none⟩ = some (.slice V1 v1 v1) ∧ w.cell? ⟨g, 5, none⟩ = some (.int .i64 e1) ∧ w.cell? ⟨g, 6, none⟩ = some (.bool n2) ∧ True :=
  ⟨h.cell 0 _ rfl, h.cell 1 _ rfl, h.cell 2 _ rfl, h.cell 3 _ rfl, h.cell 4 _ rfl, h.cell 5 _ rfl, h.cell 6 _ rfl, trivial⟩
end
theorem wide_inf {B P W M E H : Nat} {low : Int} (hf : Fm B P W M E H low) (ba : Nat) (hba : ba < 18446744073709551616) {w : World} (hT : Tab w) {er : Int} (hv : valS M E H low ba = (⟨false, 0, 0⟩, er)) (d1 : (er != 0) = true) (s : Bool) (hn : decide (ba / H % 2 = 1) = s) :
    Calls Tryd.prog 32 #[.agg #[.int .i64 (B : Int), .int .i64 (P : Int), .int .i64 (W : Int)], .int .u64 (ba : Int)] w (PlX w s 1 5000) := by
  have HV := Lib.hid hv
  have HN := Lib.hid hn
  clear hv hn
  go_enter Tryd.func32, Tryd.ntmps32
  go_wp2_with fail
  obtain ⟨V, hV, z0, z1, BW, sW⟩ := fframe2 w 25 39 (B : Int) (P : Int) (W : Int) false none 0 0 0
  rw [hV]
  clear hV sW
  replace hT := hT.on BW
  refine (value_as hf ba hba hT HV.out).mono ?_
  rintro en w1 ⟨V_rv, v_rv, rfl, rv, b⟩
  replace z0 := z0.on b
  replace z1 := z1.on b
  replace hT := hT.on b
  replace BW := Below.step BW b
  clear b
  have lz := z1.cells.2.2.2.2.2.2
  obtain ⟨z0c0, z0c1, z0c2, z0f0, z0f1, z0f2, z0l⟩ := z0.cells
  obtain ⟨z1c0, z1c1, z1c2, z1f0, z1f1, z1f2, z1l⟩ := z1.cells
  go_upto_region 2 with fail
  clear z0c0 z0c1 z0c2 z0f0 z0f1 z0f2 z0l z1c0 z1c1 z1c2 z1f0 z1f1 z1f2 z1l
  obtain ⟨w2, e_w2⟩ : ∃ w', w1.alloc (dob false V_rv v_rv v_rv 0 39) = w' := ⟨_, rfl⟩
  have b : Below w1.heap.size w1 w2 := e_w2 ▸ below_lit _ _
  have hs_w2 : w2.heap.size = w1.heap.size + 1 := e_w2 ▸ size_lit w1 _ rfl
  have zv : DB w2 w1.heap.size 39 false V_rv v_rv v_rv 0 := e_w2 ▸ DB.made w1 rfl 39 false V_rv v_rv v_rv 0
  rw [e_w2]
  clear e_w2
  replace z0 := z0.on b
  replace z1 := z1.on b
  replace hT := hT.on b
  replace rv := rv.on b
  replace BW := Below.step BW b
  clear b
  clear hs_w2
  obtain ⟨z0c0, z0c1, z0c2, z0f0, z0f1, z0f2, z0l⟩ := z0.cells
  obtain ⟨z1c0, z1c1, z1c2, z1f0, z1f1, z1f2, z1l⟩ := z1.cells
  go_wp2_with fail
  clear z0c0 z0c1 z0c2 z0f0 z0f1 z0f2 z0l z1c0 z1c1 z1c2 z1f0 z1f1 z1f2 z1l
  refine (fneg_as hf ba hba s HN.out _).mono ?_
  rintro en w3 ⟨rfl, b⟩
  replace z0 := z0.on b
  replace z1 := z1.on b
  replace hT := hT.on b
  replace rv := rv.on b
  replace zv := zv.on b
  replace BW := Below.step BW b
  clear b
  obtain ⟨z0c0, z0c1, z0c2, z0f0, z0f1, z0f2, z0l⟩ := z0.cells
  obtain ⟨z1c0, z1c1, z1c2, z1f0, z1f1, z1f2, z1l⟩ := z1.cells
  go_wp2_with fail
  clear z0c0 z0c1 z0c2 z0f0 z0f1 z0f2 z0l z1c0 z1c1 z1c2 z1f0 z1f1 z1f2 z1l
  have y2 := (z1.put_d s (some ⟨w3.heap.size, 0, none⟩) 1 1 5000).on (below_lit _ (.cells #[.int .u32 1] 107))
  have yl := lit_res_at (put3 w3 (w.heap.size + 1) (.bool s) (.slice (some ⟨w3.heap.size, 0, none⟩) 1 1) (.int .i64 5000)) (put3_size _ _ _ _ _) 107 [1] 1 1 (canon1 1 (by omega) (by omega)) rfl rfl
  have yb := below_k (below_put3 BW (show w.heap.size ≤ w.heap.size + 1 by omega) (.bool s) (.slice (some ⟨w3.heap.size, 0, none⟩) 1 1) (.int .i64 5000)) (.cells #[.int .u32 1] 107)
  obtain ⟨p0, p1, p2, _⟩ := y2.cells
  refine bodyPost_ret (v := .agg #[.bool s, .slice (some ⟨w3.heap.size, 0, none⟩) 1 1, .int .i64 5000]) (by simp [results, Tryd.results32, go_sem, p0, p1, p2]) rfl ?_
  exact ⟨_, _, rfl, yl, yb⟩
theorem wide_fin {B P W M E H : Nat} {low : Int} (hf : Fm B P W M E H low) (ba : Nat) (hba : ba < 18446744073709551616) {w : World} (hT : Tab w) {vn : Bool} {vx : Nat} {ve : Int} (hv : valS M E H low ba = (⟨vn, vx, ve⟩, 0)) :
    Calls Tryd.prog 32 #[.agg #[.int .i64 (B : Int), .int .i64 (P : Int), .int .i64 (W : Int)], .int .u64 (ba : Int)] w (PlX w vn vx ve) := by
  have HV := Lib.hid hv
  clear hv
  go_enter Tryd.func32, Tryd.ntmps32
  go_wp2_with fail
  obtain ⟨V, hV, z0, z1, BW, sW⟩ := fframe2 w 25 39 (B : Int) (P : Int) (W : Int) false none 0 0 0
  rw [hV]
  clear hV sW
  replace hT := hT.on BW
  refine (value_as hf ba hba hT HV.out).mono ?_
  rintro en w1 ⟨V_rv, v_rv, rfl, rv, b⟩
  replace z0 := z0.on b
  replace z1 := z1.on b
  replace hT := hT.on b
  replace BW := Below.step BW b
  clear b
  have lz := z1.cells.2.2.2.2.2.2
  obtain ⟨z0c0, z0c1, z0c2, z0f0, z0f1, z0f2, z0l⟩ := z0.cells
  obtain ⟨z1c0, z1c1, z1c2, z1f0, z1f1, z1f2, z1l⟩ := z1.cells
  go_upto_region 2 with fail
  clear z0c0 z0c1 z0c2 z0f0 z0f1 z0f2 z0l z1c0 z1c1 z1c2 z1f0 z1f1 z1f2 z1l
  obtain ⟨w2, e_w2⟩ : ∃ w', w1.alloc (dob vn V_rv v_rv v_rv ve 39) = w' := ⟨_, rfl⟩
  have b : Below w1.heap.size w1 w2 := e_w2 ▸ below_lit _ _
  have hs_w2 : w2.heap.size = w1.heap.size + 1 := e_w2 ▸ size_lit w1 _ rfl
  have zv : DB w2 w1.heap.size 39 vn V_rv v_rv v_rv ve := e_w2 ▸ DB.made w1 rfl 39 vn V_rv v_rv v_rv ve
  rw [e_w2]
  clear e_w2
  replace z0 := z0.on b
  replace z1 := z1.on b
  replace hT := hT.on b
  replace rv := rv.on b
  replace BW := Below.step BW b
  clear b
  clear hs_w2
  have n2 : w1.heap.size ≠ w.heap.size + 1 := by omega
  have n3 : w.heap.size + 1 ≠ w1.heap.size := by omega
  obtain ⟨z1c0, z1c1, z1c2, z1f0, z1f1, z1f2, z1l⟩ := z1.cells
  obtain ⟨zvc0, zvc1, zvc2, zvf0, zvf1, zvf2, zvl⟩ := zv.cells
  go_wp2_with fail
  clear z1c0 z1c1 z1c2 z1f0 z1f1 z1f2 z1l zvc0 zvc1 zvc2 zvf0 zvf1 zvf2 zvl
  have y2 := z1.put_d vn V_rv v_rv v_rv ve
  have yl := z1.res rv (.bool vn) (.slice V_rv v_rv v_rv) (.int .i64 ve)
  have yb := below_put3 BW (show w.heap.size ≤ w.heap.size + 1 by omega) (.bool vn) (.slice V_rv v_rv v_rv) (.int .i64 ve)
  obtain ⟨p0, p1, p2, _⟩ := y2.cells
  refine bodyPost_ret (v := .agg #[.bool vn, .slice V_rv v_rv v_rv, .int .i64 ve]) (by simp [results, Tryd.results32, go_sem, p0, p1, p2]) rfl ?_
  exact ⟨_, _, rfl, yl, yb⟩
section
variable {B P W M E H : Nat} {low : Int}
/-- what is told, as a number. -/
theorem told_vl (hf : Fm B P W M E H low) {mode : Int} (hm : 0 ≤ mode ∧ mode ≤ 4) {d : D} (hd : mayR d = true) (s : Bool) {t : Nat} {fl e : Int} (hr : roundS P M E H low mode d s = (t, fl, e)) :
    ∃ (g : Bool) (k : Nat), k ≤ M * E ∧ sgn H g k = t ∧ e = 0 ∧ svl M E low BIG g k = rndZ P M E low BIG mode d.vl := by
  have hME := ME_lt hf
  by_cases h0 : d.x = 0
  · rw [roundS_zero hm hd h0] at hr
    simp only [Prod.mk.injEq] at hr
    refine ⟨s, 0, by omega, hr.1, hr.2.2.symm, ?_⟩
    obtain ⟨g, k, h1, h2, h3, h4⟩ := round_vl (P := P) (H := H) hf hm hd
    rw [roundS_zero hm hd h0] at h2
    simp only at h2
    have hk : k = 0 := by
      have : sgn H false 0 = 0 := rfl
      rw [this] at h2
      unfold sgn at h2
      split at h2 <;> omega
    rw [← h4, hk]
    have hz : szC M E low BIG 0 = 0 := by
      unfold szC
      rw [if_neg (by omega), valU_zero hf]
    unfold svl
    rw [hz]
    cases s <;> cases g <;> rfl
  · have hsame : roundS P M E H low mode d false = roundS P M E H low mode d s := by
      unfold roundS
      rw [if_neg h0, if_neg h0]
    obtain ⟨g, k, h1, h2, h3, h4⟩ := round_vl (P := P) (H := H) hf hm hd
    rw [hsame, hr] at h2 h3
    exact ⟨g, k, h1, h2.symm, h3, h4⟩
theorem cmp_le (hf : Fm B P W M E H low) (mode : Int) {z z' : Int} (h : z ≤ z') : cmpI (rndZ P M E low BIG mode z) (rndZ P M E low BIG mode z') ≤ 0 := by
  have := rndZ_mono (P := P) (E := E) hf (big_ok hf) mode h
  have := cmpI_cases (rndZ P M E low BIG mode z) (rndZ P M E low BIG mode z')
  omega
theorem cmp_ge (hf : Fm B P W M E H low) (mode : Int) {z z' : Int} (h : z' ≤ z) : 0 ≤ cmpI (rndZ P M E low BIG mode z) (rndZ P M E low BIG mode z') := by
  have := rndZ_mono (P := P) (E := E) hf (big_ok hf) mode h
  have := cmpI_cases (rndZ P M E low BIG mode z) (rndZ P M E low BIG mode z')
  omega
theorem mul_rises {a b c : D} (ha : -20000 ≤ a.e) (hb : -20000 ≤ b.e) (hc : -20000 ≤ c.e) (hn : c.neg = false) (h : a.vl ≤ b.vl) : (a.mul c).vl ≤ (b.mul c).vl := by
  have h1 := D.mul_vl ha hc
  have h2 := D.mul_vl hb hc
  have h3 : 0 ≤ c.vl := by
    have := D.vl_neg (d := c)
    rw [hn] at this
    refine Int.not_lt.1 (fun h => ?_)
    cases (this.1 h).1
  have h4 := Int.mul_le_mul_of_nonneg_right h h3
  rw [← h1, ← h2] at h4
  exact Int.le_of_mul_le_mul_right h4 (pow_pos_int 40000)
end
/-- THE LAWS' WIDE of what is told. -/
theorem wide_as {B P W M E H : Nat} {low : Int} (hf : Fm B P W M E H low) (s : Bool) (k : Nat) (hk : k ≤ M * E) {ba : Nat} (hb : sgn H s k = ba) : ∃ (vn : Bool) (vx : Nat) (ve : Int), D.may ⟨vn, vx, ve⟩ = true ∧ (⟨vn, vx, ve⟩ : D).vl = svl M E low BIG s k ∧ blen vx ≤ 4096 ∧
    ∀ w : World, Tab w → Calls Tryd.prog 32 #[.agg #[.int .i64 (B : Int), .int .i64 (P : Int), .int .i64 (W : Int)], .int .u64 (ba : Int)] w (PlX w vn vx ve) := by
  obtain ⟨b1, b2, b3, b4, b5, b6, b7, b8, b9, b10, b11, b12, b13, b14, b15⟩ := hf.bd
  have hME := ME_lt hf
  obtain ⟨s1, s2, s3, s4, s5, s6⟩ := sgn_parts hf s k (by omega)
  rw [hb] at s1 s2 s3 s4
  have hb64 : ba < 18446744073709551616 := by omega
  by_cases he : k = M * E
  · subst he
    have hbl : blen 1 = 1 := by decide
    refine ⟨s, 1, 5000, may_small (by show 1 < 18446744073709551616; omega) (by show (-8192 : Int) ≤ 5000; omega) (by show (5000 : Int) ≤ 8192; omega), ?_, by rw [hbl]; omega, fun w hT => wide_inf hf ba hb64 hT (er := 1) ?_ rfl s s3⟩
    · rw [inf_vl]
      unfold svl szC
      rw [if_pos rfl]
    · unfold valS
      rw [if_pos s4, s2, Nat.mul_div_cancel_left _ (by omega), if_pos rfl]
  · have hk2 : k < M * E := by omega
    obtain ⟨v1, v2⟩ := val_abs hf s k hk2
    rw [hb] at v1
    obtain ⟨vn, vx, ve, hd⟩ : ∃ vn vx ve, D.pl ⟨s, valN M E k, valP M E low k⟩ = ⟨vn, vx, ve⟩ := ⟨_, _, _, rfl⟩
    rw [hd] at v1 v2
    have hm := (val_may hf k s).2
    rw [hd] at hm
    refine ⟨vn, vx, ve, hm, ?_, ((D.may_iff _).1 hm).1, fun w hT => wide_fin hf ba hb64 hT v1⟩
    rw [v2]
    unfold svl szC
    rw [if_neg he]
set_option maxRecDepth 100000 in
theorem rises5_bad (bits : Int) (mode : Int) (ba bb bc : Nat) (h1 : bits ≠ 16) (h2 : bits ≠ 32) (h3 : bits ≠ 64) {w : World} (hT : Tab w) (hF : Frm w) :
    Calls Tryd.prog 7 #[.int .i64 bits, .int .i64 mode, .int .u64 (ba : Int), .int .u64 (bb : Int), .int .u64 (bc : Int)] w fun e w' => e = .returned (.bool true) ∧ Below w.heap.size w w' := by
  go_enter Tryd.func7, Tryd.ntmps7
  go_wp2_with fail
  refine (awake5_any hT hF).mono ?_
  rintro en w1 ⟨rfl, b⟩
  replace hT := hT.on b
  replace hF := hF.on b
  have BW := b
  clear b
  go_wp2_with fail
  refine (of_bad bits h1 h2 h3 _ hF).mono ?_
  rintro en w2 ⟨rfl, b⟩
  replace hT := hT.on b
  replace hF := hF.on b
  replace BW := Below.step BW b
  clear b
  go_wp2_with fail
  go_ret
  exact ⟨rfl, below_k BW _⟩
set_option maxHeartbeats 4000000 in
set_option maxRecDepth 100000 in
theorem rises5_m1 {B P W M E H : Nat} {low : Int} (hf : Fm B P W M E H low) (mode : Int) (ba bb bc : Nat) (hba : ba < 18446744073709551616) (hbb : bb < 18446744073709551616) (hbc : bc < 18446744073709551616) {w : World} (hT : Tab w) (hF : Frm w) (m1 : decide (mode < 0) = true) :
    Calls Tryd.prog 7 #[.int .i64 (B : Int), .int .i64 mode, .int .u64 (ba : Int), .int .u64 (bb : Int), .int .u64 (bc : Int)] w fun e w' => e = .returned (.bool true) ∧ Below w.heap.size w w' := by
  go_enter Tryd.func7, Tryd.ntmps7
  go_wp2_with fail
  refine (awake5_any hT hF).mono ?_
  rintro en w1 ⟨rfl, b⟩
  replace hT := hT.on b
  replace hF := hF.on b
  have BW := b
  clear b
  go_wp2_with fail
  refine (of_fm hf _ hF).mono ?_
  rintro en w2 ⟨rfl, b⟩
  replace hT := hT.on b
  replace hF := hF.on b
  replace BW := Below.step BW b
  clear b
  go_upto_region 4 with fail
  obtain ⟨w3, e_w3⟩ : ∃ w', w2.alloc (.cells #[.int .i64 (B : Int), .int .i64 (P : Int), .int .i64 (W : Int)] 25) = w' := ⟨_, rfl⟩
  have b : Below w2.heap.size w2 w3 := e_w3 ▸ below_lit _ _
  have hs_w3 : w3.heap.size = w2.heap.size + 1 := e_w3 ▸ size_lit w2 _ rfl
  have zf : FB w3 w2.heap.size 25 (B : Int) (P : Int) (W : Int) := e_w3 ▸ FB.made_k w2 rfl 25 _ _ _
  rw [e_w3]
  clear e_w3
  replace hT := hT.on b
  replace hF := hF.on b
  replace BW := Below.step BW b
  clear b
  clear hs_w3
  clear hF
  obtain ⟨zfc0, zfc1, zfc2, zff0, zff1, zff2, zfl⟩ := zf.cells
  go_wp2_with fail
  go_ret
  exact ⟨rfl, BW⟩
set_option maxHeartbeats 4000000 in
set_option maxRecDepth 100000 in
theorem rises5_m2 {B P W M E H : Nat} {low : Int} (hf : Fm B P W M E H low) (mode : Int) (ba bb bc : Nat) (hba : ba < 18446744073709551616) (hbb : bb < 18446744073709551616) (hbc : bc < 18446744073709551616) {w : World} (hT : Tab w) (hF : Frm w) (m1 : decide (mode < 0) = false) (m2 : decide (5 ≤ mode) = true) :
    Calls Tryd.prog 7 #[.int .i64 (B : Int), .int .i64 mode, .int .u64 (ba : Int), .int .u64 (bb : Int), .int .u64 (bc : Int)] w fun e w' => e = .returned (.bool true) ∧ Below w.heap.size w w' := by
  go_enter Tryd.func7, Tryd.ntmps7
  go_wp2_with fail
  refine (awake5_any hT hF).mono ?_
  rintro en w1 ⟨rfl, b⟩
  replace hT := hT.on b
  replace hF := hF.on b
  have BW := b
  clear b
  go_wp2_with fail
  refine (of_fm hf _ hF).mono ?_
  rintro en w2 ⟨rfl, b⟩
  replace hT := hT.on b
  replace hF := hF.on b
  replace BW := Below.step BW b
  clear b
  go_upto_region 4 with fail
  obtain ⟨w3, e_w3⟩ : ∃ w', w2.alloc (.cells #[.int .i64 (B : Int), .int .i64 (P : Int), .int .i64 (W : Int)] 25) = w' := ⟨_, rfl⟩
  have b : Below w2.heap.size w2 w3 := e_w3 ▸ below_lit _ _
  have hs_w3 : w3.heap.size = w2.heap.size + 1 := e_w3 ▸ size_lit w2 _ rfl
  have zf : FB w3 w2.heap.size 25 (B : Int) (P : Int) (W : Int) := e_w3 ▸ FB.made_k w2 rfl 25 _ _ _
  rw [e_w3]
  clear e_w3
  replace hT := hT.on b
  replace hF := hF.on b
  replace BW := Below.step BW b
  clear b
  clear hs_w3
  clear hF
  obtain ⟨zfc0, zfc1, zfc2, zff0, zff1, zff2, zfl⟩ := zf.cells
  go_wp2_with fail
  go_ret
  exact ⟨rfl, BW⟩
set_option maxHeartbeats 4000000 in
set_option maxRecDepth 100000 in
theorem rises5_v0 {B P W M E H : Nat} {low : Int} (hf : Fm B P W M E H low) (mode : Int) (ba bb bc : Nat) (hba : ba < 18446744073709551616) (hbb : bb < 18446744073709551616) (hbc : bc < 18446744073709551616) {w : World} (hT : Tab w) (hF : Frm w) (m1 : decide (mode < 0) = false) (m2 : decide (5 ≤ mode) = false)  {er : Int} (hv0 : valS M E H low ba = (⟨false, 0, 0⟩, er)) (d1 : (er != 0) = true) :
    Calls Tryd.prog 7 #[.int .i64 (B : Int), .int .i64 mode, .int .u64 (ba : Int), .int .u64 (bb : Int), .int .u64 (bc : Int)] w fun e w' => e = .returned (.bool true) ∧ Below w.heap.size w w' := by
  have HV0 := Lib.hid hv0
  clear hv0
  go_enter Tryd.func7, Tryd.ntmps7
  go_wp2_with fail
  refine (awake5_any hT hF).mono ?_
  rintro en w1 ⟨rfl, b⟩
  replace hT := hT.on b
  replace hF := hF.on b
  have BW := b
  clear b
  go_wp2_with fail
  refine (of_fm hf _ hF).mono ?_
  rintro en w2 ⟨rfl, b⟩
  replace hT := hT.on b
  replace hF := hF.on b
  replace BW := Below.step BW b
  clear b
  go_upto_region 4 with fail
  obtain ⟨w3, e_w3⟩ : ∃ w', w2.alloc (.cells #[.int .i64 (B : Int), .int .i64 (P : Int), .int .i64 (W : Int)] 25) = w' := ⟨_, rfl⟩
  have b : Below w2.heap.size w2 w3 := e_w3 ▸ below_lit _ _
  have hs_w3 : w3.heap.size = w2.heap.size + 1 := e_w3 ▸ size_lit w2 _ rfl
  have zf : FB w3 w2.heap.size 25 (B : Int) (P : Int) (W : Int) := e_w3 ▸ FB.made_k w2 rfl 25 _ _ _
  rw [e_w3]
  clear e_w3
  replace hT := hT.on b
  replace hF := hF.on b
  replace BW := Below.step BW b
  clear b
  clear hs_w3
  clear hF
  obtain ⟨zfc0, zfc1, zfc2, zff0, zff1, zff2, zfl⟩ := zf.cells
  go_wp2_with fail
  clear zfc0 zfc1 zfc2 zff0 zff1 zff2 zfl
  obtain ⟨w4, e_w4⟩ : ∃ w', w3.alloc (.cells #[.int .u64 (ba : Int), .int .u64 (bb : Int), .int .u64 (bc : Int)] 22) = w' := ⟨_, rfl⟩
  have b : Below w3.heap.size w3 w4 := e_w4 ▸ below_lit _ _
  have hs_w4 : w4.heap.size = w3.heap.size + 1 := e_w4 ▸ size_lit w3 _ rfl
  have ob : OB w4 w3.heap.size [ba, bb, bc] := e_w4 ▸ OB.three w3 rfl ba bb bc
  rw [e_w4]
  clear e_w4
  replace hT := hT.on b
  replace zf := zf.on b
  replace BW := Below.step BW b
  clear b
  clear hs_w4
  refine (fin3_0 hf ba bb bc hba hbb hbc ob hT HV0.out d1).mono ?_
  rintro en w5 ⟨rfl, b⟩
  replace hT := hT.on b
  replace zf := zf.on b
  replace ob := ob.on b
  replace BW := Below.step BW b
  clear b
  clear ob
  obtain ⟨zfc0, zfc1, zfc2, zff0, zff1, zff2, zfl⟩ := zf.cells
  go_wp2_with fail
  go_ret
  exact ⟨rfl, BW⟩
set_option maxHeartbeats 4000000 in
set_option maxRecDepth 100000 in
theorem rises5_v1 {B P W M E H : Nat} {low : Int} (hf : Fm B P W M E H low) (mode : Int) (ba bb bc : Nat) (hba : ba < 18446744073709551616) (hbb : bb < 18446744073709551616) (hbc : bc < 18446744073709551616) {w : World} (hT : Tab w) (hF : Frm w) (m1 : decide (mode < 0) = false) (m2 : decide (5 ≤ mode) = false) {n0 : Bool} {x0 : Nat} {e0 : Int} (hv0 : valS M E H low ba = (⟨n0, x0, e0⟩, 0)) {er : Int} (hv1 : valS M E H low bb = (⟨false, 0, 0⟩, er)) (d1 : (er != 0) = true) :
    Calls Tryd.prog 7 #[.int .i64 (B : Int), .int .i64 mode, .int .u64 (ba : Int), .int .u64 (bb : Int), .int .u64 (bc : Int)] w fun e w' => e = .returned (.bool true) ∧ Below w.heap.size w w' := by
  have HV0 := Lib.hid hv0
  have HV1 := Lib.hid hv1
  clear hv0 hv1
  go_enter Tryd.func7, Tryd.ntmps7
  go_wp2_with fail
  refine (awake5_any hT hF).mono ?_
  rintro en w1 ⟨rfl, b⟩
  replace hT := hT.on b
  replace hF := hF.on b
  have BW := b
  clear b
  go_wp2_with fail
  refine (of_fm hf _ hF).mono ?_
  rintro en w2 ⟨rfl, b⟩
  replace hT := hT.on b
  replace hF := hF.on b
  replace BW := Below.step BW b
  clear b
  go_upto_region 4 with fail
  obtain ⟨w3, e_w3⟩ : ∃ w', w2.alloc (.cells #[.int .i64 (B : Int), .int .i64 (P : Int), .int .i64 (W : Int)] 25) = w' := ⟨_, rfl⟩
  have b : Below w2.heap.size w2 w3 := e_w3 ▸ below_lit _ _
  have hs_w3 : w3.heap.size = w2.heap.size + 1 := e_w3 ▸ size_lit w2 _ rfl
  have zf : FB w3 w2.heap.size 25 (B : Int) (P : Int) (W : Int) := e_w3 ▸ FB.made_k w2 rfl 25 _ _ _
  rw [e_w3]
  clear e_w3
  replace hT := hT.on b
  replace hF := hF.on b
  replace BW := Below.step BW b
  clear b
  clear hs_w3
  clear hF
  obtain ⟨zfc0, zfc1, zfc2, zff0, zff1, zff2, zfl⟩ := zf.cells
  go_wp2_with fail
  clear zfc0 zfc1 zfc2 zff0 zff1 zff2 zfl
  obtain ⟨w4, e_w4⟩ : ∃ w', w3.alloc (.cells #[.int .u64 (ba : Int), .int .u64 (bb : Int), .int .u64 (bc : Int)] 22) = w' := ⟨_, rfl⟩
  have b : Below w3.heap.size w3 w4 := e_w4 ▸ below_lit _ _
  have hs_w4 : w4.heap.size = w3.heap.size + 1 := e_w4 ▸ size_lit w3 _ rfl
  have ob : OB w4 w3.heap.size [ba, bb, bc] := e_w4 ▸ OB.three w3 rfl ba bb bc
  rw [e_w4]
  clear e_w4
  replace hT := hT.on b
  replace zf := zf.on b
  replace BW := Below.step BW b
  clear b
  clear hs_w4
  refine (fin3_1 hf ba bb bc hba hbb hbc ob hT HV0.out HV1.out d1).mono ?_
  rintro en w5 ⟨rfl, b⟩
  replace hT := hT.on b
  replace zf := zf.on b
  replace ob := ob.on b
  replace BW := Below.step BW b
  clear b
  clear ob
  obtain ⟨zfc0, zfc1, zfc2, zff0, zff1, zff2, zfl⟩ := zf.cells
  go_wp2_with fail
  go_ret
  exact ⟨rfl, BW⟩
set_option maxHeartbeats 4000000 in
set_option maxRecDepth 100000 in
theorem rises5_v2 {B P W M E H : Nat} {low : Int} (hf : Fm B P W M E H low) (mode : Int) (ba bb bc : Nat) (hba : ba < 18446744073709551616) (hbb : bb < 18446744073709551616) (hbc : bc < 18446744073709551616) {w : World} (hT : Tab w) (hF : Frm w) (m1 : decide (mode < 0) = false) (m2 : decide (5 ≤ mode) = false) {n0 : Bool} {x0 : Nat} {e0 : Int} (hv0 : valS M E H low ba = (⟨n0, x0, e0⟩, 0)) {n1 : Bool} {x1 : Nat} {e1 : Int} (hv1 : valS M E H low bb = (⟨n1, x1, e1⟩, 0)) {er : Int} (hv2 : valS M E H low bc = (⟨false, 0, 0⟩, er)) (d1 : (er != 0) = true) :
    Calls Tryd.prog 7 #[.int .i64 (B : Int), .int .i64 mode, .int .u64 (ba : Int), .int .u64 (bb : Int), .int .u64 (bc : Int)] w fun e w' => e = .returned (.bool true) ∧ Below w.heap.size w w' := by
  have HV0 := Lib.hid hv0
  have HV1 := Lib.hid hv1
  have HV2 := Lib.hid hv2
  clear hv0 hv1 hv2
  go_enter Tryd.func7, Tryd.ntmps7
  go_wp2_with fail
  refine (awake5_any hT hF).mono ?_
  rintro en w1 ⟨rfl, b⟩
  replace hT := hT.on b
  replace hF := hF.on b
  have BW := b
  clear b
  go_wp2_with fail
  refine (of_fm hf _ hF).mono ?_
  rintro en w2 ⟨rfl, b⟩
  replace hT := hT.on b
  replace hF := hF.on b
  replace BW := Below.step BW b
  clear b
  go_upto_region 4 with fail
  obtain ⟨w3, e_w3⟩ : ∃ w', w2.alloc (.cells #[.int .i64 (B : Int), .int .i64 (P : Int), .int .i64 (W : Int)] 25) = w' := ⟨_, rfl⟩
  have b : Below w2.heap.size w2 w3 := e_w3 ▸ below_lit _ _
  have hs_w3 : w3.heap.size = w2.heap.size + 1 := e_w3 ▸ size_lit w2 _ rfl
  have zf : FB w3 w2.heap.size 25 (B : Int) (P : Int) (W : Int) := e_w3 ▸ FB.made_k w2 rfl 25 _ _ _
  rw [e_w3]
  clear e_w3
  replace hT := hT.on b
  replace hF := hF.on b
  replace BW := Below.step BW b
  clear b
  clear hs_w3
  clear hF
  obtain ⟨zfc0, zfc1, zfc2, zff0, zff1, zff2, zfl⟩ := zf.cells
  go_wp2_with fail
  clear zfc0 zfc1 zfc2 zff0 zff1 zff2 zfl
  obtain ⟨w4, e_w4⟩ : ∃ w', w3.alloc (.cells #[.int .u64 (ba : Int), .int .u64 (bb : Int), .int .u64 (bc : Int)] 22) = w' := ⟨_, rfl⟩
  have b : Below w3.heap.size w3 w4 := e_w4 ▸ below_lit _ _
  have hs_w4 : w4.heap.size = w3.heap.size + 1 := e_w4 ▸ size_lit w3 _ rfl
  have ob : OB w4 w3.heap.size [ba, bb, bc] := e_w4 ▸ OB.three w3 rfl ba bb bc
  rw [e_w4]
  clear e_w4
  replace hT := hT.on b
  replace zf := zf.on b
  replace BW := Below.step BW b
  clear b
  clear hs_w4
  refine (fin3_2 hf ba bb bc hba hbb hbc ob hT HV0.out HV1.out HV2.out d1).mono ?_
  rintro en w5 ⟨rfl, b⟩
  replace hT := hT.on b
  replace zf := zf.on b
  replace ob := ob.on b
  replace BW := Below.step BW b
  clear b
  clear ob
  obtain ⟨zfc0, zfc1, zfc2, zff0, zff1, zff2, zfl⟩ := zf.cells
  go_wp2_with fail
  go_ret
  exact ⟨rfl, BW⟩
set_option maxHeartbeats 4000000 in
set_option maxRecDepth 100000 in
theorem rises5_ltn {B P W M E H : Nat} {low : Int} (hf : Fm B P W M E H low) (mode : Int) (ba bb bc : Nat) (hba : ba < 18446744073709551616) (hbb : bb < 18446744073709551616) (hbc : bc < 18446744073709551616) {w : World} (hT : Tab w) (hF : Frm w) (m1 : decide (mode < 0) = false) (m2 : decide (5 ≤ mode) = false) {n0 : Bool} {x0 : Nat} {e0 : Int} (hv0 : valS M E H low ba = (⟨n0, x0, e0⟩, 0)) (hl0 : blen x0 ≤ 4096) {n1 : Bool} {x1 : Nat} {e1 : Int} (hv1 : valS M E H low bb = (⟨n1, x1, e1⟩, 0)) (hl1 : blen x1 ≤ 4096) {n2 : Bool} {x2 : Nat} {e2 : Int} (hv2 : valS M E H low bc = (⟨n2, x2, e2⟩, 0)) (hl2 : blen x2 ≤ 4096) {lw sm pr : Int} (hc0 : cmpS ⟨n0, x0, e0⟩ ⟨n1, x1, e1⟩ = (lw, 0)) {t1 t2 t3 t4 : Nat} {f1 f2 f3 f4 : Int} (r1 : addI P M E H low mode ba bc = (t1, f1, 0)) (r2 : addI P M E H low mode bb bc = (t2, f2, 0)) (r3 : mulI P M E H low mode ba bc = (t3, f3, 0)) (r4 : mulI P M E H low mode bb bc = (t4, f4, 0)) {xn : Bool} {xx : Nat} {xe : Int} (hlx : blen xx ≤ 4096) (hwx : ∀ w : World, Tab w → Calls Tryd.prog 32 #[.agg #[.int .i64 (B : Int), .int .i64 (P : Int), .int .i64 (W : Int)], .int .u64 (t1 : Int)] w (PlX w xn xx xe)) {yn : Bool} {yx : Nat} {ye : Int} (hly : blen yx ≤ 4096) (hwy : ∀ w : World, Tab w → Calls Tryd.prog 32 #[.agg #[.int .i64 (B : Int), .int .i64 (P : Int), .int .i64 (W : Int)], .int .u64 (t2 : Int)] w (PlX w yn yx ye)) {un : Bool} {ux : Nat} {ue : Int} (hlu : blen ux ≤ 4096) (hwu : ∀ w : World, Tab w → Calls Tryd.prog 32 #[.agg #[.int .i64 (B : Int), .int .i64 (P : Int), .int .i64 (W : Int)], .int .u64 (t3 : Int)] w (PlX w un ux ue)) {vn : Bool} {vx : Nat} {ve : Int} (hlv : blen vx ≤ 4096) (hwv : ∀ w : World, Tab w → Calls Tryd.prog 32 #[.agg #[.int .i64 (B : Int), .int .i64 (P : Int), .int .i64 (W : Int)], .int .u64 (t4 : Int)] w (PlX w vn vx ve)) (hc1 : cmpS ⟨xn, xx, xe⟩ ⟨yn, yx, ye⟩ = (sm, 0)) (hc2 : cmpS ⟨un, ux, ue⟩ ⟨vn, vx, ve⟩ = (pr, 0)) (a1 : decide (lw ≤ 0) = true) (a2 : decide (0 < sm) = false) (a3 : decide (0 ≤ lw) = false) (hn2 : n2 = true) :
    Calls Tryd.prog 7 #[.int .i64 (B : Int), .int .i64 mode, .int .u64 (ba : Int), .int .u64 (bb : Int), .int .u64 (bc : Int)] w fun e w' => e = .returned (.bool true) ∧ Below w.heap.size w w' := by
  subst hn2
  have HV0 := Lib.hid hv0
  have HV1 := Lib.hid hv1
  have HV2 := Lib.hid hv2
  clear hv0 hv1 hv2
  have HC0 := Lib.hid hc0
  have HC1 := Lib.hid hc1
  have HC2 := Lib.hid hc2
  have H1 := Lib.hid r1
  have H2 := Lib.hid r2
  have H3 := Lib.hid r3
  have H4 := Lib.hid r4
  have HWx := Lib.hid hwx
  have HWy := Lib.hid hwy
  have HWu := Lib.hid hwu
  have HWv := Lib.hid hwv
  clear hc0 hc1 hc2 r1 r2 r3 r4 hwx hwy hwu hwv
  go_enter Tryd.func7, Tryd.ntmps7
  go_wp2_with fail
  refine (awake5_any hT hF).mono ?_
  rintro en w1 ⟨rfl, b⟩
  replace hT := hT.on b
  replace hF := hF.on b
  have BW := b
  clear b
  go_wp2_with fail
  refine (of_fm hf _ hF).mono ?_
  rintro en w2 ⟨rfl, b⟩
  replace hT := hT.on b
  replace hF := hF.on b
  replace BW := Below.step BW b
  clear b
  go_upto_region 4 with fail
  obtain ⟨w3, e_w3⟩ : ∃ w', w2.alloc (.cells #[.int .i64 (B : Int), .int .i64 (P : Int), .int .i64 (W : Int)] 25) = w' := ⟨_, rfl⟩
  have b : Below w2.heap.size w2 w3 := e_w3 ▸ below_lit _ _
  have hs_w3 : w3.heap.size = w2.heap.size + 1 := e_w3 ▸ size_lit w2 _ rfl
  have zf : FB w3 w2.heap.size 25 (B : Int) (P : Int) (W : Int) := e_w3 ▸ FB.made_k w2 rfl 25 _ _ _
  rw [e_w3]
  clear e_w3
  replace hT := hT.on b
  replace hF := hF.on b
  replace BW := Below.step BW b
  clear b
  clear hs_w3
  clear hF
  obtain ⟨zfc0, zfc1, zfc2, zff0, zff1, zff2, zfl⟩ := zf.cells
  go_wp2_with fail
  clear zfc0 zfc1 zfc2 zff0 zff1 zff2 zfl
  obtain ⟨w4, e_w4⟩ : ∃ w', w3.alloc (.cells #[.int .u64 (ba : Int), .int .u64 (bb : Int), .int .u64 (bc : Int)] 22) = w' := ⟨_, rfl⟩
  have b : Below w3.heap.size w3 w4 := e_w4 ▸ below_lit _ _
  have hs_w4 : w4.heap.size = w3.heap.size + 1 := e_w4 ▸ size_lit w3 _ rfl
  have ob : OB w4 w3.heap.size [ba, bb, bc] := e_w4 ▸ OB.three w3 rfl ba bb bc
  rw [e_w4]
  clear e_w4
  replace hT := hT.on b
  replace zf := zf.on b
  replace BW := Below.step BW b
  clear b
  clear hs_w4
  refine (fin3_ok hf ba bb bc hba hbb hbc ob hT HV0.out HV1.out HV2.out).mono ?_
  rintro en w5 ⟨g, cap, cur, V0, v0, V1, v1, V2, v2, rfl, hg, hcur, hcap, hcm, hgs, r0, r1, r2, b⟩
  replace hT := hT.on b
  replace zf := zf.on b
  replace ob := ob.on b
  replace BW := Below.step BW b
  clear b
  clear ob r2
  have zl : R9 w5 g n0 V0 v0 e0 n1 V1 v1 e1 true := ⟨cur, hg, by have := congrArg (List.take 7) hcur; simpa [List.take_take] using this⟩
  clear hg hcur hcap hcm hgs
  have l0 := res_n_le r0 (k := 128) hl0
  have l1 := res_n_le r1 (k := 128) hl1
  obtain ⟨zfc0, zfc1, zfc2, zff0, zff1, zff2, zfl⟩ := zf.cells
  go_wp2_with fail
  clear zfc0 zfc1 zfc2 zff0 zff1 zff2 zfl
  replace hT := hT.on ((Below.refl _ _).drew : Below w5.heap.size w5 w5.drew)
  replace zf := zf.on ((Below.refl _ _).drew : Below w5.heap.size w5 w5.drew)
  replace r0 := r0.on ((Below.refl _ _).drew : Below w5.heap.size w5 w5.drew)
  replace r1 := r1.on ((Below.refl _ _).drew : Below w5.heap.size w5 w5.drew)
  replace zl := zl.on ((Below.refl _ _).drew : Below w5.heap.size w5 w5.drew)
  replace BW := Lib.hid (Below.step BW ((Below.refl _ _).drew : Below w5.heap.size w5 w5.drew))
  go_region_held3 (fun w' => w'.cell? ⟨g, 0, none⟩ = some (.bool n0) ∧ w'.cell? ⟨g, 1, none⟩ = some (.slice V0 v0 v0) ∧ w'.cell? ⟨g, 2, none⟩ = some (.int .i64 e0) ∧ w'.cell? ⟨g, 3, none⟩ = some (.bool n1) ∧ w'.cell? ⟨g, 4, none⟩ = some (.slice V1 v1 v1) ∧ w'.cell? ⟨g, 5, none⟩ = some (.int .i64 e1) ∧ w'.cell? ⟨g, 6, none⟩ = some (.bool true))
    ((first | (with_reducible exact ⟨zl.cells.1, zl.cells.2.1, zl.cells.2.2.1, zl.cells.2.2.2.1, zl.cells.2.2.2.2.1, zl.cells.2.2.2.2.2.1, zl.cells.2.2.2.2.2.2.1⟩)))
    (first
      | (go_at_call 31
         (with_reducible refine (dcmp_as (r0.arg (by omega)) (r1.arg (by omega)) (by omega) (by omega) hT HC0.out).mono ?_)
         rintro en w6 ⟨rfl, b⟩
         replace hT := hT.on b
         replace zf := zf.on b
         replace r0 := r0.on b
         replace r1 := r1.on b
         replace zl := zl.on b
         replace BW := Lib.hid (Below.step BW.out b)
         clear b))
  all_goals replace BW := BW.out
  clear r0 r1
  obtain ⟨zfc0, zfc1, zfc2, zff0, zff1, zff2, zfl⟩ := zf.cells
  go_wp2_with fail
  refine (add_as hf mode ba bc hba hbc hT H1.out).mono ?_
  rintro en w7 ⟨rfl, b⟩
  clear zfc0 zfc1 zfc2 zff0 zff1 zff2 zfl
  replace hT := hT.on b
  replace zf := zf.on b
  replace zl := zl.on b
  replace BW := Below.step BW b
  clear b
  obtain ⟨zfc0, zfc1, zfc2, zff0, zff1, zff2, zfl⟩ := zf.cells
  go_wp2_with fail
  refine (add_as hf mode bb bc hbb hbc hT H2.out).mono ?_
  rintro en w8 ⟨rfl, b⟩
  clear zfc0 zfc1 zfc2 zff0 zff1 zff2 zfl
  replace hT := hT.on b
  replace zf := zf.on b
  replace zl := zl.on b
  replace BW := Below.step BW b
  clear b
  obtain ⟨zfc0, zfc1, zfc2, zff0, zff1, zff2, zfl⟩ := zf.cells
  go_wp2_with fail
  clear zfc0 zfc1 zfc2 zff0 zff1 zff2 zfl
  replace hT := hT.on ((Below.refl _ _).drew : Below w8.heap.size w8 w8.drew)
  replace zf := zf.on ((Below.refl _ _).drew : Below w8.heap.size w8 w8.drew)
  replace zl := zl.on ((Below.refl _ _).drew : Below w8.heap.size w8 w8.drew)
  replace BW := Lib.hid (Below.step BW ((Below.refl _ _).drew : Below w8.heap.size w8 w8.drew))
  go_region_held3 (fun w' => w'.cell? ⟨w2.heap.size, 0, none⟩ = some (.int .i64 (B : Int)) ∧ w'.cell? ⟨w2.heap.size, 1, none⟩ = some (.int .i64 (P : Int)) ∧ w'.cell? ⟨w2.heap.size, 2, none⟩ = some (.int .i64 (W : Int)))
    ((first | (with_reducible exact ⟨zf.cells.1, zf.cells.2.1, zf.cells.2.2.1⟩)))
    (first
      | (go_at_call 32
         (with_reducible refine (HWx.out _ hT).mono ?_)
         rintro en w9 ⟨V_rx, v_rx, rfl, rx, b⟩
         replace hT := hT.on b
         replace zf := zf.on b
         replace zl := zl.on b
         first | (revert ry; intro ry; replace ry := ry.on b) | skip
         replace BW := Lib.hid (Below.step BW.out b)
         have lx := res_n_le rx (k := 128) hlx
         clear b)
      | (go_at_call 32
         (with_reducible refine (HWy.out _ hT).mono ?_)
         rintro en w9 ⟨V_ry, v_ry, rfl, ry, b⟩
         replace hT := hT.on b
         replace zf := zf.on b
         replace zl := zl.on b
         first | (revert rx; intro rx; replace rx := rx.on b) | skip
         replace BW := Lib.hid (Below.step BW.out b)
         have ly := res_n_le ry (k := 128) hly
         clear b)
      | (go_at_call 31
         (with_reducible refine (dcmp_as (rx.arg (by omega)) (ry.arg (by omega)) (by omega) (by omega) hT HC1.out).mono ?_)
         rintro en w9 ⟨rfl, b⟩
         replace hT := hT.on b
         replace zf := zf.on b
         replace zl := zl.on b
         first | (revert rx; intro rx; replace rx := rx.on b) | skip
         first | (revert ry; intro ry; replace ry := ry.on b) | skip
         replace BW := Lib.hid (Below.step BW.out b)
         clear b))
  all_goals replace BW := BW.out
  all_goals (
    clear rx ry
    obtain ⟨zfc0, zfc1, zfc2, zff0, zff1, zff2, zfl⟩ := zf.cells
    go_wp2_with fail
    refine (mul_as hf mode ba bc hba hbc hT H3.out).mono ?_
    rintro en w10 ⟨rfl, b⟩
    clear zfc0 zfc1 zfc2 zff0 zff1 zff2 zfl
    replace hT := hT.on b
    replace zf := zf.on b
    replace zl := zl.on b
    replace BW := Below.step BW b
    clear b
    obtain ⟨zfc0, zfc1, zfc2, zff0, zff1, zff2, zfl⟩ := zf.cells
    go_wp2_with fail
    refine (mul_as hf mode bb bc hbb hbc hT H4.out).mono ?_
    rintro en w11 ⟨rfl, b⟩
    clear zfc0 zfc1 zfc2 zff0 zff1 zff2 zfl
    replace hT := hT.on b
    replace zf := zf.on b
    replace zl := zl.on b
    replace BW := Below.step BW b
    clear b
    obtain ⟨zfc0, zfc1, zfc2, zff0, zff1, zff2, zfl⟩ := zf.cells
    go_wp2_with fail
    clear zfc0 zfc1 zfc2 zff0 zff1 zff2 zfl
    replace hT := hT.on ((Below.refl _ _).drew : Below w11.heap.size w11 w11.drew)
    replace zf := zf.on ((Below.refl _ _).drew : Below w11.heap.size w11 w11.drew)
    replace zl := zl.on ((Below.refl _ _).drew : Below w11.heap.size w11 w11.drew)
    replace BW := Lib.hid (Below.step BW ((Below.refl _ _).drew : Below w11.heap.size w11 w11.drew))
    go_region_held3 (fun w' => w'.cell? ⟨w2.heap.size, 0, none⟩ = some (.int .i64 (B : Int)) ∧ w'.cell? ⟨w2.heap.size, 1, none⟩ = some (.int .i64 (P : Int)) ∧ w'.cell? ⟨w2.heap.size, 2, none⟩ = some (.int .i64 (W : Int)))
      ((first | (with_reducible exact ⟨zf.cells.1, zf.cells.2.1, zf.cells.2.2.1⟩)))
      (first
        | (go_at_call 32
           (with_reducible refine (HWu.out _ hT).mono ?_)
           rintro en w12 ⟨V_ru, v_ru, rfl, ru, b⟩
           replace hT := hT.on b
           replace zf := zf.on b
           replace zl := zl.on b
           first | (revert rv; intro rv; replace rv := rv.on b) | skip
           replace BW := Lib.hid (Below.step BW.out b)
           have lu := res_n_le ru (k := 128) hlu
           clear b)
        | (go_at_call 32
           (with_reducible refine (HWv.out _ hT).mono ?_)
           rintro en w12 ⟨V_rv, v_rv, rfl, rv, b⟩
           replace hT := hT.on b
           replace zf := zf.on b
           replace zl := zl.on b
           first | (revert ru; intro ru; replace ru := ru.on b) | skip
           replace BW := Lib.hid (Below.step BW.out b)
           have lv := res_n_le rv (k := 128) hlv
           clear b)
        | (go_at_call 31
           (with_reducible refine (dcmp_as (ru.arg (by omega)) (rv.arg (by omega)) (by omega) (by omega) hT HC2.out).mono ?_)
           rintro en w12 ⟨rfl, b⟩
           replace hT := hT.on b
           replace zf := zf.on b
           replace zl := zl.on b
           first | (revert ru; intro ru; replace ru := ru.on b) | skip
           first | (revert rv; intro rv; replace rv := rv.on b) | skip
           replace BW := Lib.hid (Below.step BW.out b)
           clear b))
    all_goals replace BW := BW.out
    all_goals (
      clear ru rv
      obtain ⟨zlc0, zlc1, zlc2, zlc3, zlc4, zlc5, zlc6, _⟩ := zl.cells
      go_wp2_with fail
      go_ret
      exact ⟨rfl, BW⟩))
set_option maxHeartbeats 4000000 in
set_option maxRecDepth 100000 in
theorem rises5_ltp {B P W M E H : Nat} {low : Int} (hf : Fm B P W M E H low) (mode : Int) (ba bb bc : Nat) (hba : ba < 18446744073709551616) (hbb : bb < 18446744073709551616) (hbc : bc < 18446744073709551616) {w : World} (hT : Tab w) (hF : Frm w) (m1 : decide (mode < 0) = false) (m2 : decide (5 ≤ mode) = false) {n0 : Bool} {x0 : Nat} {e0 : Int} (hv0 : valS M E H low ba = (⟨n0, x0, e0⟩, 0)) (hl0 : blen x0 ≤ 4096) {n1 : Bool} {x1 : Nat} {e1 : Int} (hv1 : valS M E H low bb = (⟨n1, x1, e1⟩, 0)) (hl1 : blen x1 ≤ 4096) {n2 : Bool} {x2 : Nat} {e2 : Int} (hv2 : valS M E H low bc = (⟨n2, x2, e2⟩, 0)) (hl2 : blen x2 ≤ 4096) {lw sm pr : Int} (hc0 : cmpS ⟨n0, x0, e0⟩ ⟨n1, x1, e1⟩ = (lw, 0)) {t1 t2 t3 t4 : Nat} {f1 f2 f3 f4 : Int} (r1 : addI P M E H low mode ba bc = (t1, f1, 0)) (r2 : addI P M E H low mode bb bc = (t2, f2, 0)) (r3 : mulI P M E H low mode ba bc = (t3, f3, 0)) (r4 : mulI P M E H low mode bb bc = (t4, f4, 0)) {xn : Bool} {xx : Nat} {xe : Int} (hlx : blen xx ≤ 4096) (hwx : ∀ w : World, Tab w → Calls Tryd.prog 32 #[.agg #[.int .i64 (B : Int), .int .i64 (P : Int), .int .i64 (W : Int)], .int .u64 (t1 : Int)] w (PlX w xn xx xe)) {yn : Bool} {yx : Nat} {ye : Int} (hly : blen yx ≤ 4096) (hwy : ∀ w : World, Tab w → Calls Tryd.prog 32 #[.agg #[.int .i64 (B : Int), .int .i64 (P : Int), .int .i64 (W : Int)], .int .u64 (t2 : Int)] w (PlX w yn yx ye)) {un : Bool} {ux : Nat} {ue : Int} (hlu : blen ux ≤ 4096) (hwu : ∀ w : World, Tab w → Calls Tryd.prog 32 #[.agg #[.int .i64 (B : Int), .int .i64 (P : Int), .int .i64 (W : Int)], .int .u64 (t3 : Int)] w (PlX w un ux ue)) {vn : Bool} {vx : Nat} {ve : Int} (hlv : blen vx ≤ 4096) (hwv : ∀ w : World, Tab w → Calls Tryd.prog 32 #[.agg #[.int .i64 (B : Int), .int .i64 (P : Int), .int .i64 (W : Int)], .int .u64 (t4 : Int)] w (PlX w vn vx ve)) (hc1 : cmpS ⟨xn, xx, xe⟩ ⟨yn, yx, ye⟩ = (sm, 0)) (hc2 : cmpS ⟨un, ux, ue⟩ ⟨vn, vx, ve⟩ = (pr, 0)) (a1 : decide (lw ≤ 0) = true) (a2 : decide (0 < sm) = false) (a3 : decide (0 ≤ lw) = false) (hn2 : n2 = false) (b1 : decide (0 < lw) = false) (b2 : decide (pr ≤ 0) = true) (b3 : decide (lw < 0) = true) :
    Calls Tryd.prog 7 #[.int .i64 (B : Int), .int .i64 mode, .int .u64 (ba : Int), .int .u64 (bb : Int), .int .u64 (bc : Int)] w fun e w' => e = .returned (.bool true) ∧ Below w.heap.size w w' := by
  subst hn2
  have HV0 := Lib.hid hv0
  have HV1 := Lib.hid hv1
  have HV2 := Lib.hid hv2
  clear hv0 hv1 hv2
  have HC0 := Lib.hid hc0
  have HC1 := Lib.hid hc1
  have HC2 := Lib.hid hc2
  have H1 := Lib.hid r1
  have H2 := Lib.hid r2
  have H3 := Lib.hid r3
  have H4 := Lib.hid r4
  have HWx := Lib.hid hwx
  have HWy := Lib.hid hwy
  have HWu := Lib.hid hwu
  have HWv := Lib.hid hwv
  clear hc0 hc1 hc2 r1 r2 r3 r4 hwx hwy hwu hwv
  go_enter Tryd.func7, Tryd.ntmps7
  go_wp2_with fail
  refine (awake5_any hT hF).mono ?_
  rintro en w1 ⟨rfl, b⟩
  replace hT := hT.on b
  replace hF := hF.on b
  have BW := b
  clear b
  go_wp2_with fail
  refine (of_fm hf _ hF).mono ?_
  rintro en w2 ⟨rfl, b⟩
  replace hT := hT.on b
  replace hF := hF.on b
  replace BW := Below.step BW b
  clear b
  go_upto_region 4 with fail
  obtain ⟨w3, e_w3⟩ : ∃ w', w2.alloc (.cells #[.int .i64 (B : Int), .int .i64 (P : Int), .int .i64 (W : Int)] 25) = w' := ⟨_, rfl⟩
  have b : Below w2.heap.size w2 w3 := e_w3 ▸ below_lit _ _
  have hs_w3 : w3.heap.size = w2.heap.size + 1 := e_w3 ▸ size_lit w2 _ rfl
  have zf : FB w3 w2.heap.size 25 (B : Int) (P : Int) (W : Int) := e_w3 ▸ FB.made_k w2 rfl 25 _ _ _
  rw [e_w3]
  clear e_w3
  replace hT := hT.on b
  replace hF := hF.on b
  replace BW := Below.step BW b
  clear b
  clear hs_w3
  clear hF
  obtain ⟨zfc0, zfc1, zfc2, zff0, zff1, zff2, zfl⟩ := zf.cells
  go_wp2_with fail
  clear zfc0 zfc1 zfc2 zff0 zff1 zff2 zfl
  obtain ⟨w4, e_w4⟩ : ∃ w', w3.alloc (.cells #[.int .u64 (ba : Int), .int .u64 (bb : Int), .int .u64 (bc : Int)] 22) = w' := ⟨_, rfl⟩
  have b : Below w3.heap.size w3 w4 := e_w4 ▸ below_lit _ _
  have hs_w4 : w4.heap.size = w3.heap.size + 1 := e_w4 ▸ size_lit w3 _ rfl
  have ob : OB w4 w3.heap.size [ba, bb, bc] := e_w4 ▸ OB.three w3 rfl ba bb bc
  rw [e_w4]
  clear e_w4
  replace hT := hT.on b
  replace zf := zf.on b
  replace BW := Below.step BW b
  clear b
  clear hs_w4
  refine (fin3_ok hf ba bb bc hba hbb hbc ob hT HV0.out HV1.out HV2.out).mono ?_
  rintro en w5 ⟨g, cap, cur, V0, v0, V1, v1, V2, v2, rfl, hg, hcur, hcap, hcm, hgs, r0, r1, r2, b⟩
  replace hT := hT.on b
  replace zf := zf.on b
  replace ob := ob.on b
  replace BW := Below.step BW b
  clear b
  clear ob r2
  have zl : R9 w5 g n0 V0 v0 e0 n1 V1 v1 e1 false := ⟨cur, hg, by have := congrArg (List.take 7) hcur; simpa [List.take_take] using this⟩
  clear hg hcur hcap hcm hgs
  have l0 := res_n_le r0 (k := 128) hl0
  have l1 := res_n_le r1 (k := 128) hl1
  obtain ⟨zfc0, zfc1, zfc2, zff0, zff1, zff2, zfl⟩ := zf.cells
  go_wp2_with fail
  clear zfc0 zfc1 zfc2 zff0 zff1 zff2 zfl
  replace hT := hT.on ((Below.refl _ _).drew : Below w5.heap.size w5 w5.drew)
  replace zf := zf.on ((Below.refl _ _).drew : Below w5.heap.size w5 w5.drew)
  replace r0 := r0.on ((Below.refl _ _).drew : Below w5.heap.size w5 w5.drew)
  replace r1 := r1.on ((Below.refl _ _).drew : Below w5.heap.size w5 w5.drew)
  replace zl := zl.on ((Below.refl _ _).drew : Below w5.heap.size w5 w5.drew)
  replace BW := Lib.hid (Below.step BW ((Below.refl _ _).drew : Below w5.heap.size w5 w5.drew))
  go_region_held3 (fun w' => w'.cell? ⟨g, 0, none⟩ = some (.bool n0) ∧ w'.cell? ⟨g, 1, none⟩ = some (.slice V0 v0 v0) ∧ w'.cell? ⟨g, 2, none⟩ = some (.int .i64 e0) ∧ w'.cell? ⟨g, 3, none⟩ = some (.bool n1) ∧ w'.cell? ⟨g, 4, none⟩ = some (.slice V1 v1 v1) ∧ w'.cell? ⟨g, 5, none⟩ = some (.int .i64 e1) ∧ w'.cell? ⟨g, 6, none⟩ = some (.bool false))
    ((first | (with_reducible exact ⟨zl.cells.1, zl.cells.2.1, zl.cells.2.2.1, zl.cells.2.2.2.1, zl.cells.2.2.2.2.1, zl.cells.2.2.2.2.2.1, zl.cells.2.2.2.2.2.2.1⟩)))
    (first
      | (go_at_call 31
         (with_reducible refine (dcmp_as (r0.arg (by omega)) (r1.arg (by omega)) (by omega) (by omega) hT HC0.out).mono ?_)
         rintro en w6 ⟨rfl, b⟩
         replace hT := hT.on b
         replace zf := zf.on b
         replace r0 := r0.on b
         replace r1 := r1.on b
         replace zl := zl.on b
         replace BW := Lib.hid (Below.step BW.out b)
         clear b))
  all_goals replace BW := BW.out
  clear r0 r1
  obtain ⟨zfc0, zfc1, zfc2, zff0, zff1, zff2, zfl⟩ := zf.cells
  go_wp2_with fail
  refine (add_as hf mode ba bc hba hbc hT H1.out).mono ?_
  rintro en w7 ⟨rfl, b⟩
  clear zfc0 zfc1 zfc2 zff0 zff1 zff2 zfl
  replace hT := hT.on b
  replace zf := zf.on b
  replace zl := zl.on b
  replace BW := Below.step BW b
  clear b
  obtain ⟨zfc0, zfc1, zfc2, zff0, zff1, zff2, zfl⟩ := zf.cells
  go_wp2_with fail
  refine (add_as hf mode bb bc hbb hbc hT H2.out).mono ?_
  rintro en w8 ⟨rfl, b⟩
  clear zfc0 zfc1 zfc2 zff0 zff1 zff2 zfl
  replace hT := hT.on b
  replace zf := zf.on b
  replace zl := zl.on b
  replace BW := Below.step BW b
  clear b
  obtain ⟨zfc0, zfc1, zfc2, zff0, zff1, zff2, zfl⟩ := zf.cells
  go_wp2_with fail
  clear zfc0 zfc1 zfc2 zff0 zff1 zff2 zfl
  replace hT := hT.on ((Below.refl _ _).drew : Below w8.heap.size w8 w8.drew)
  replace zf := zf.on ((Below.refl _ _).drew : Below w8.heap.size w8 w8.drew)
  replace zl := zl.on ((Below.refl _ _).drew : Below w8.heap.size w8 w8.drew)
  replace BW := Lib.hid (Below.step BW ((Below.refl _ _).drew : Below w8.heap.size w8 w8.drew))
  go_region_held3 (fun w' => w'.cell? ⟨w2.heap.size, 0, none⟩ = some (.int .i64 (B : Int)) ∧ w'.cell? ⟨w2.heap.size, 1, none⟩ = some (.int .i64 (P : Int)) ∧ w'.cell? ⟨w2.heap.size, 2, none⟩ = some (.int .i64 (W : Int)))
    ((first | (with_reducible exact ⟨zf.cells.1, zf.cells.2.1, zf.cells.2.2.1⟩)))
    (first
      | (go_at_call 32
         (with_reducible refine (HWx.out _ hT).mono ?_)
         rintro en w9 ⟨V_rx, v_rx, rfl, rx, b⟩
         replace hT := hT.on b
         replace zf := zf.on b
         replace zl := zl.on b
         first | (revert ry; intro ry; replace ry := ry.on b) | skip
         replace BW := Lib.hid (Below.step BW.out b)
         have lx := res_n_le rx (k := 128) hlx
         clear b)
      | (go_at_call 32
         (with_reducible refine (HWy.out _ hT).mono ?_)
         rintro en w9 ⟨V_ry, v_ry, rfl, ry, b⟩
         replace hT := hT.on b
         replace zf := zf.on b
         replace zl := zl.on b
         first | (revert rx; intro rx; replace rx := rx.on b) | skip
         replace BW := Lib.hid (Below.step BW.out b)
         have ly := res_n_le ry (k := 128) hly
         clear b)
      | (go_at_call 31
         (with_reducible refine (dcmp_as (rx.arg (by omega)) (ry.arg (by omega)) (by omega) (by omega) hT HC1.out).mono ?_)
         rintro en w9 ⟨rfl, b⟩
         replace hT := hT.on b
         replace zf := zf.on b
         replace zl := zl.on b
         first | (revert rx; intro rx; replace rx := rx.on b) | skip
         first | (revert ry; intro ry; replace ry := ry.on b) | skip
         replace BW := Lib.hid (Below.step BW.out b)
         clear b))
  all_goals replace BW := BW.out
  all_goals (
    clear rx ry
    obtain ⟨zfc0, zfc1, zfc2, zff0, zff1, zff2, zfl⟩ := zf.cells
    go_wp2_with fail
    refine (mul_as hf mode ba bc hba hbc hT H3.out).mono ?_
    rintro en w10 ⟨rfl, b⟩
    clear zfc0 zfc1 zfc2 zff0 zff1 zff2 zfl
    replace hT := hT.on b
    replace zf := zf.on b
    replace zl := zl.on b
    replace BW := Below.step BW b
    clear b
    obtain ⟨zfc0, zfc1, zfc2, zff0, zff1, zff2, zfl⟩ := zf.cells
    go_wp2_with fail
    refine (mul_as hf mode bb bc hbb hbc hT H4.out).mono ?_
    rintro en w11 ⟨rfl, b⟩
    clear zfc0 zfc1 zfc2 zff0 zff1 zff2 zfl
    replace hT := hT.on b
    replace zf := zf.on b
    replace zl := zl.on b
    replace BW := Below.step BW b
    clear b
    obtain ⟨zfc0, zfc1, zfc2, zff0, zff1, zff2, zfl⟩ := zf.cells
    go_wp2_with fail
    clear zfc0 zfc1 zfc2 zff0 zff1 zff2 zfl
    replace hT := hT.on ((Below.refl _ _).drew : Below w11.heap.size w11 w11.drew)
    replace zf := zf.on ((Below.refl _ _).drew : Below w11.heap.size w11 w11.drew)
    replace zl := zl.on ((Below.refl _ _).drew : Below w11.heap.size w11 w11.drew)
    replace BW := Lib.hid (Below.step BW ((Below.refl _ _).drew : Below w11.heap.size w11 w11.drew))
    go_region_held3 (fun w' => w'.cell? ⟨w2.heap.size, 0, none⟩ = some (.int .i64 (B : Int)) ∧ w'.cell? ⟨w2.heap.size, 1, none⟩ = some (.int .i64 (P : Int)) ∧ w'.cell? ⟨w2.heap.size, 2, none⟩ = some (.int .i64 (W : Int)))
      ((first | (with_reducible exact ⟨zf.cells.1, zf.cells.2.1, zf.cells.2.2.1⟩)))
      (first
        | (go_at_call 32
           (with_reducible refine (HWu.out _ hT).mono ?_)
           rintro en w12 ⟨V_ru, v_ru, rfl, ru, b⟩
           replace hT := hT.on b
           replace zf := zf.on b
           replace zl := zl.on b
           first | (revert rv; intro rv; replace rv := rv.on b) | skip
           replace BW := Lib.hid (Below.step BW.out b)
           have lu := res_n_le ru (k := 128) hlu
           clear b)
        | (go_at_call 32
           (with_reducible refine (HWv.out _ hT).mono ?_)
           rintro en w12 ⟨V_rv, v_rv, rfl, rv, b⟩
           replace hT := hT.on b
           replace zf := zf.on b
           replace zl := zl.on b
           first | (revert ru; intro ru; replace ru := ru.on b) | skip
           replace BW := Lib.hid (Below.step BW.out b)
           have lv := res_n_le rv (k := 128) hlv
           clear b)
        | (go_at_call 31
           (with_reducible refine (dcmp_as (ru.arg (by omega)) (rv.arg (by omega)) (by omega) (by omega) hT HC2.out).mono ?_)
           rintro en w12 ⟨rfl, b⟩
           replace hT := hT.on b
           replace zf := zf.on b
           replace zl := zl.on b
           first | (revert ru; intro ru; replace ru := ru.on b) | skip
           first | (revert rv; intro rv; replace rv := rv.on b) | skip
           replace BW := Lib.hid (Below.step BW.out b)
           clear b))
    all_goals replace BW := BW.out
    all_goals (
      clear ru rv
      obtain ⟨zlc0, zlc1, zlc2, zlc3, zlc4, zlc5, zlc6, _⟩ := zl.cells
      go_wp2_with fail
      go_ret
      exact ⟨rfl, BW⟩))
set_option maxHeartbeats 4000000 in
set_option maxRecDepth 100000 in
theorem rises5_eqn {B P W M E H : Nat} {low : Int} (hf : Fm B P W M E H low) (mode : Int) (ba bb bc : Nat) (hba : ba < 18446744073709551616) (hbb : bb < 18446744073709551616) (hbc : bc < 18446744073709551616) {w : World} (hT : Tab w) (hF : Frm w) (m1 : decide (mode < 0) = false) (m2 : decide (5 ≤ mode) = false) {n0 : Bool} {x0 : Nat} {e0 : Int} (hv0 : valS M E H low ba = (⟨n0, x0, e0⟩, 0)) (hl0 : blen x0 ≤ 4096) {n1 : Bool} {x1 : Nat} {e1 : Int} (hv1 : valS M E H low bb = (⟨n1, x1, e1⟩, 0)) (hl1 : blen x1 ≤ 4096) {n2 : Bool} {x2 : Nat} {e2 : Int} (hv2 : valS M E H low bc = (⟨n2, x2, e2⟩, 0)) (hl2 : blen x2 ≤ 4096) {lw sm pr : Int} (hc0 : cmpS ⟨n0, x0, e0⟩ ⟨n1, x1, e1⟩ = (lw, 0)) {t1 t2 t3 t4 : Nat} {f1 f2 f3 f4 : Int} (r1 : addI P M E H low mode ba bc = (t1, f1, 0)) (r2 : addI P M E H low mode bb bc = (t2, f2, 0)) (r3 : mulI P M E H low mode ba bc = (t3, f3, 0)) (r4 : mulI P M E H low mode bb bc = (t4, f4, 0)) {xn : Bool} {xx : Nat} {xe : Int} (hlx : blen xx ≤ 4096) (hwx : ∀ w : World, Tab w → Calls Tryd.prog 32 #[.agg #[.int .i64 (B : Int), .int .i64 (P : Int), .int .i64 (W : Int)], .int .u64 (t1 : Int)] w (PlX w xn xx xe)) {yn : Bool} {yx : Nat} {ye : Int} (hly : blen yx ≤ 4096) (hwy : ∀ w : World, Tab w → Calls Tryd.prog 32 #[.agg #[.int .i64 (B : Int), .int .i64 (P : Int), .int .i64 (W : Int)], .int .u64 (t2 : Int)] w (PlX w yn yx ye)) {un : Bool} {ux : Nat} {ue : Int} (hlu : blen ux ≤ 4096) (hwu : ∀ w : World, Tab w → Calls Tryd.prog 32 #[.agg #[.int .i64 (B : Int), .int .i64 (P : Int), .int .i64 (W : Int)], .int .u64 (t3 : Int)] w (PlX w un ux ue)) {vn : Bool} {vx : Nat} {ve : Int} (hlv : blen vx ≤ 4096) (hwv : ∀ w : World, Tab w → Calls Tryd.prog 32 #[.agg #[.int .i64 (B : Int), .int .i64 (P : Int), .int .i64 (W : Int)], .int .u64 (t4 : Int)] w (PlX w vn vx ve)) (hc1 : cmpS ⟨xn, xx, xe⟩ ⟨yn, yx, ye⟩ = (sm, 0)) (hc2 : cmpS ⟨un, ux, ue⟩ ⟨vn, vx, ve⟩ = (pr, 0)) (a1 : decide (lw ≤ 0) = true) (a2 : decide (0 < sm) = false) (a3 : decide (0 ≤ lw) = true) (a4 : decide (sm < 0) = false) (hn2 : n2 = true) :
    Calls Tryd.prog 7 #[.int .i64 (B : Int), .int .i64 mode, .int .u64 (ba : Int), .int .u64 (bb : Int), .int .u64 (bc : Int)] w fun e w' => e = .returned (.bool true) ∧ Below w.heap.size w w' := by
  subst hn2
  have HV0 := Lib.hid hv0
  have HV1 := Lib.hid hv1
  have HV2 := Lib.hid hv2
  clear hv0 hv1 hv2
  have HC0 := Lib.hid hc0
  have HC1 := Lib.hid hc1
  have HC2 := Lib.hid hc2
  have H1 := Lib.hid r1
  have H2 := Lib.hid r2
  have H3 := Lib.hid r3
  have H4 := Lib.hid r4
  have HWx := Lib.hid hwx
  have HWy := Lib.hid hwy
  have HWu := Lib.hid hwu
  have HWv := Lib.hid hwv
  clear hc0 hc1 hc2 r1 r2 r3 r4 hwx hwy hwu hwv
  go_enter Tryd.func7, Tryd.ntmps7
  go_wp2_with fail
  refine (awake5_any hT hF).mono ?_
  rintro en w1 ⟨rfl, b⟩
  replace hT := hT.on b
  replace hF := hF.on b
  have BW := b
  clear b
  go_wp2_with fail
  refine (of_fm hf _ hF).mono ?_
  rintro en w2 ⟨rfl, b⟩
  replace hT := hT.on b
  replace hF := hF.on b
  replace BW := Below.step BW b
  clear b
  go_upto_region 4 with fail
  obtain ⟨w3, e_w3⟩ : ∃ w', w2.alloc (.cells #[.int .i64 (B : Int), .int .i64 (P : Int), .int .i64 (W : Int)] 25) = w' := ⟨_, rfl⟩
  have b : Below w2.heap.size w2 w3 := e_w3 ▸ below_lit _ _
  have hs_w3 : w3.heap.size = w2.heap.size + 1 := e_w3 ▸ size_lit w2 _ rfl
  have zf : FB w3 w2.heap.size 25 (B : Int) (P : Int) (W : Int) := e_w3 ▸ FB.made_k w2 rfl 25 _ _ _
  rw [e_w3]
  clear e_w3
  replace hT := hT.on b
  replace hF := hF.on b
  replace BW := Below.step BW b
  clear b
  clear hs_w3
  clear hF
  obtain ⟨zfc0, zfc1, zfc2, zff0, zff1, zff2, zfl⟩ := zf.cells
  go_wp2_with fail
  clear zfc0 zfc1 zfc2 zff0 zff1 zff2 zfl
  obtain ⟨w4, e_w4⟩ : ∃ w', w3.alloc (.cells #[.int .u64 (ba : Int), .int .u64 (bb : Int), .int .u64 (bc : Int)] 22) = w' := ⟨_, rfl⟩
  have b : Below w3.heap.size w3 w4 := e_w4 ▸ below_lit _ _
  have hs_w4 : w4.heap.size = w3.heap.size + 1 := e_w4 ▸ size_lit w3 _ rfl
  have ob : OB w4 w3.heap.size [ba, bb, bc] := e_w4 ▸ OB.three w3 rfl ba bb bc
  rw [e_w4]
  clear e_w4
  replace hT := hT.on b
  replace zf := zf.on b
  replace BW := Below.step BW b
  clear b
  clear hs_w4
  refine (fin3_ok hf ba bb bc hba hbb hbc ob hT HV0.out HV1.out HV2.out).mono ?_
  rintro en w5 ⟨g, cap, cur, V0, v0, V1, v1, V2, v2, rfl, hg, hcur, hcap, hcm, hgs, r0, r1, r2, b⟩
  replace hT := hT.on b
  replace zf := zf.on b
  replace ob := ob.on b
  replace BW := Below.step BW b
  clear b
  clear ob r2
  have zl : R9 w5 g n0 V0 v0 e0 n1 V1 v1 e1 true := ⟨cur, hg, by have := congrArg (List.take 7) hcur; simpa [List.take_take] using this⟩
  clear hg hcur hcap hcm hgs
  have l0 := res_n_le r0 (k := 128) hl0
  have l1 := res_n_le r1 (k := 128) hl1
  obtain ⟨zfc0, zfc1, zfc2, zff0, zff1, zff2, zfl⟩ := zf.cells
  go_wp2_with fail
  clear zfc0 zfc1 zfc2 zff0 zff1 zff2 zfl
  replace hT := hT.on ((Below.refl _ _).drew : Below w5.heap.size w5 w5.drew)
  replace zf := zf.on ((Below.refl _ _).drew : Below w5.heap.size w5 w5.drew)
  replace r0 := r0.on ((Below.refl _ _).drew : Below w5.heap.size w5 w5.drew)
  replace r1 := r1.on ((Below.refl _ _).drew : Below w5.heap.size w5 w5.drew)
  replace zl := zl.on ((Below.refl _ _).drew : Below w5.heap.size w5 w5.drew)
  replace BW := Lib.hid (Below.step BW ((Below.refl _ _).drew : Below w5.heap.size w5 w5.drew))
  go_region_held3 (fun w' => w'.cell? ⟨g, 0, none⟩ = some (.bool n0) ∧ w'.cell? ⟨g, 1, none⟩ = some (.slice V0 v0 v0) ∧ w'.cell? ⟨g, 2, none⟩ = some (.int .i64 e0) ∧ w'.cell? ⟨g, 3, none⟩ = some (.bool n1) ∧ w'.cell? ⟨g, 4, none⟩ = some (.slice V1 v1 v1) ∧ w'.cell? ⟨g, 5, none⟩ = some (.int .i64 e1) ∧ w'.cell? ⟨g, 6, none⟩ = some (.bool true))
    ((first | (with_reducible exact ⟨zl.cells.1, zl.cells.2.1, zl.cells.2.2.1, zl.cells.2.2.2.1, zl.cells.2.2.2.2.1, zl.cells.2.2.2.2.2.1, zl.cells.2.2.2.2.2.2.1⟩)))
    (first
      | (go_at_call 31
         (with_reducible refine (dcmp_as (r0.arg (by omega)) (r1.arg (by omega)) (by omega) (by omega) hT HC0.out).mono ?_)
         rintro en w6 ⟨rfl, b⟩
         replace hT := hT.on b
         replace zf := zf.on b
         replace r0 := r0.on b
         replace r1 := r1.on b
         replace zl := zl.on b
         replace BW := Lib.hid (Below.step BW.out b)
         clear b))
  all_goals replace BW := BW.out
  clear r0 r1
  obtain ⟨zfc0, zfc1, zfc2, zff0, zff1, zff2, zfl⟩ := zf.cells
  go_wp2_with fail
  refine (add_as hf mode ba bc hba hbc hT H1.out).mono ?_
  rintro en w7 ⟨rfl, b⟩
  clear zfc0 zfc1 zfc2 zff0 zff1 zff2 zfl
  replace hT := hT.on b
  replace zf := zf.on b
  replace zl := zl.on b
  replace BW := Below.step BW b
  clear b
  obtain ⟨zfc0, zfc1, zfc2, zff0, zff1, zff2, zfl⟩ := zf.cells
  go_wp2_with fail
  refine (add_as hf mode bb bc hbb hbc hT H2.out).mono ?_
  rintro en w8 ⟨rfl, b⟩
  clear zfc0 zfc1 zfc2 zff0 zff1 zff2 zfl
  replace hT := hT.on b
  replace zf := zf.on b
  replace zl := zl.on b
  replace BW := Below.step BW b
  clear b
  obtain ⟨zfc0, zfc1, zfc2, zff0, zff1, zff2, zfl⟩ := zf.cells
  go_wp2_with fail
  clear zfc0 zfc1 zfc2 zff0 zff1 zff2 zfl
  replace hT := hT.on ((Below.refl _ _).drew : Below w8.heap.size w8 w8.drew)
  replace zf := zf.on ((Below.refl _ _).drew : Below w8.heap.size w8 w8.drew)
  replace zl := zl.on ((Below.refl _ _).drew : Below w8.heap.size w8 w8.drew)
  replace BW := Lib.hid (Below.step BW ((Below.refl _ _).drew : Below w8.heap.size w8 w8.drew))
  go_region_held3 (fun w' => w'.cell? ⟨w2.heap.size, 0, none⟩ = some (.int .i64 (B : Int)) ∧ w'.cell? ⟨w2.heap.size, 1, none⟩ = some (.int .i64 (P : Int)) ∧ w'.cell? ⟨w2.heap.size, 2, none⟩ = some (.int .i64 (W : Int)))
    ((first | (with_reducible exact ⟨zf.cells.1, zf.cells.2.1, zf.cells.2.2.1⟩)))
    (first
      | (go_at_call 32
         (with_reducible refine (HWx.out _ hT).mono ?_)
         rintro en w9 ⟨V_rx, v_rx, rfl, rx, b⟩
         replace hT := hT.on b
         replace zf := zf.on b
         replace zl := zl.on b
         first | (revert ry; intro ry; replace ry := ry.on b) | skip
         replace BW := Lib.hid (Below.step BW.out b)
         have lx := res_n_le rx (k := 128) hlx
         clear b)
      | (go_at_call 32
         (with_reducible refine (HWy.out _ hT).mono ?_)
         rintro en w9 ⟨V_ry, v_ry, rfl, ry, b⟩
         replace hT := hT.on b
         replace zf := zf.on b
         replace zl := zl.on b
         first | (revert rx; intro rx; replace rx := rx.on b) | skip
         replace BW := Lib.hid (Below.step BW.out b)
         have ly := res_n_le ry (k := 128) hly
         clear b)
      | (go_at_call 31
         (with_reducible refine (dcmp_as (rx.arg (by omega)) (ry.arg (by omega)) (by omega) (by omega) hT HC1.out).mono ?_)
         rintro en w9 ⟨rfl, b⟩
         replace hT := hT.on b
         replace zf := zf.on b
         replace zl := zl.on b
         first | (revert rx; intro rx; replace rx := rx.on b) | skip
         first | (revert ry; intro ry; replace ry := ry.on b) | skip
         replace BW := Lib.hid (Below.step BW.out b)
         clear b))
  all_goals replace BW := BW.out
  all_goals (
    clear rx ry
    obtain ⟨zfc0, zfc1, zfc2, zff0, zff1, zff2, zfl⟩ := zf.cells
    go_wp2_with fail
    refine (mul_as hf mode ba bc hba hbc hT H3.out).mono ?_
    rintro en w10 ⟨rfl, b⟩
    clear zfc0 zfc1 zfc2 zff0 zff1 zff2 zfl
    replace hT := hT.on b
    replace zf := zf.on b
    replace zl := zl.on b
    replace BW := Below.step BW b
    clear b
    obtain ⟨zfc0, zfc1, zfc2, zff0, zff1, zff2, zfl⟩ := zf.cells
    go_wp2_with fail
    refine (mul_as hf mode bb bc hbb hbc hT H4.out).mono ?_
    rintro en w11 ⟨rfl, b⟩
    clear zfc0 zfc1 zfc2 zff0 zff1 zff2 zfl
    replace hT := hT.on b
    replace zf := zf.on b
    replace zl := zl.on b
    replace BW := Below.step BW b
    clear b
    obtain ⟨zfc0, zfc1, zfc2, zff0, zff1, zff2, zfl⟩ := zf.cells
    go_wp2_with fail
    clear zfc0 zfc1 zfc2 zff0 zff1 zff2 zfl
    replace hT := hT.on ((Below.refl _ _).drew : Below w11.heap.size w11 w11.drew)
    replace zf := zf.on ((Below.refl _ _).drew : Below w11.heap.size w11 w11.drew)
    replace zl := zl.on ((Below.refl _ _).drew : Below w11.heap.size w11 w11.drew)
    replace BW := Lib.hid (Below.step BW ((Below.refl _ _).drew : Below w11.heap.size w11 w11.drew))
    go_region_held3 (fun w' => w'.cell? ⟨w2.heap.size, 0, none⟩ = some (.int .i64 (B : Int)) ∧ w'.cell? ⟨w2.heap.size, 1, none⟩ = some (.int .i64 (P : Int)) ∧ w'.cell? ⟨w2.heap.size, 2, none⟩ = some (.int .i64 (W : Int)))
      ((first | (with_reducible exact ⟨zf.cells.1, zf.cells.2.1, zf.cells.2.2.1⟩)))
      (first
        | (go_at_call 32
           (with_reducible refine (HWu.out _ hT).mono ?_)
           rintro en w12 ⟨V_ru, v_ru, rfl, ru, b⟩
           replace hT := hT.on b
           replace zf := zf.on b
           replace zl := zl.on b
           first | (revert rv; intro rv; replace rv := rv.on b) | skip
           replace BW := Lib.hid (Below.step BW.out b)
           have lu := res_n_le ru (k := 128) hlu
           clear b)
        | (go_at_call 32
           (with_reducible refine (HWv.out _ hT).mono ?_)
           rintro en w12 ⟨V_rv, v_rv, rfl, rv, b⟩
           replace hT := hT.on b
           replace zf := zf.on b
           replace zl := zl.on b
           first | (revert ru; intro ru; replace ru := ru.on b) | skip
           replace BW := Lib.hid (Below.step BW.out b)
           have lv := res_n_le rv (k := 128) hlv
           clear b)
        | (go_at_call 31
           (with_reducible refine (dcmp_as (ru.arg (by omega)) (rv.arg (by omega)) (by omega) (by omega) hT HC2.out).mono ?_)
           rintro en w12 ⟨rfl, b⟩
           replace hT := hT.on b
           replace zf := zf.on b
           replace zl := zl.on b
           first | (revert ru; intro ru; replace ru := ru.on b) | skip
           first | (revert rv; intro rv; replace rv := rv.on b) | skip
           replace BW := Lib.hid (Below.step BW.out b)
           clear b))
    all_goals replace BW := BW.out
    all_goals (
      clear ru rv
      obtain ⟨zlc0, zlc1, zlc2, zlc3, zlc4, zlc5, zlc6, _⟩ := zl.cells
      go_wp2_with fail
      go_ret
      exact ⟨rfl, BW⟩))
set_option maxHeartbeats 4000000 in
set_option maxRecDepth 100000 in
theorem rises5_eqp {B P W M E H : Nat} {low : Int} (hf : Fm B P W M E H low) (mode : Int) (ba bb bc : Nat) (hba : ba < 18446744073709551616) (hbb : bb < 18446744073709551616) (hbc : bc < 18446744073709551616) {w : World} (hT : Tab w) (hF : Frm w) (m1 : decide (mode < 0) = false) (m2 : decide (5 ≤ mode) = false) {n0 : Bool} {x0 : Nat} {e0 : Int} (hv0 : valS M E H low ba = (⟨n0, x0, e0⟩, 0)) (hl0 : blen x0 ≤ 4096) {n1 : Bool} {x1 : Nat} {e1 : Int} (hv1 : valS M E H low bb = (⟨n1, x1, e1⟩, 0)) (hl1 : blen x1 ≤ 4096) {n2 : Bool} {x2 : Nat} {e2 : Int} (hv2 : valS M E H low bc = (⟨n2, x2, e2⟩, 0)) (hl2 : blen x2 ≤ 4096) {lw sm pr : Int} (hc0 : cmpS ⟨n0, x0, e0⟩ ⟨n1, x1, e1⟩ = (lw, 0)) {t1 t2 t3 t4 : Nat} {f1 f2 f3 f4 : Int} (r1 : addI P M E H low mode ba bc = (t1, f1, 0)) (r2 : addI P M E H low mode bb bc = (t2, f2, 0)) (r3 : mulI P M E H low mode ba bc = (t3, f3, 0)) (r4 : mulI P M E H low mode bb bc = (t4, f4, 0)) {xn : Bool} {xx : Nat} {xe : Int} (hlx : blen xx ≤ 4096) (hwx : ∀ w : World, Tab w → Calls Tryd.prog 32 #[.agg #[.int .i64 (B : Int), .int .i64 (P : Int), .int .i64 (W : Int)], .int .u64 (t1 : Int)] w (PlX w xn xx xe)) {yn : Bool} {yx : Nat} {ye : Int} (hly : blen yx ≤ 4096) (hwy : ∀ w : World, Tab w → Calls Tryd.prog 32 #[.agg #[.int .i64 (B : Int), .int .i64 (P : Int), .int .i64 (W : Int)], .int .u64 (t2 : Int)] w (PlX w yn yx ye)) {un : Bool} {ux : Nat} {ue : Int} (hlu : blen ux ≤ 4096) (hwu : ∀ w : World, Tab w → Calls Tryd.prog 32 #[.agg #[.int .i64 (B : Int), .int .i64 (P : Int), .int .i64 (W : Int)], .int .u64 (t3 : Int)] w (PlX w un ux ue)) {vn : Bool} {vx : Nat} {ve : Int} (hlv : blen vx ≤ 4096) (hwv : ∀ w : World, Tab w → Calls Tryd.prog 32 #[.agg #[.int .i64 (B : Int), .int .i64 (P : Int), .int .i64 (W : Int)], .int .u64 (t4 : Int)] w (PlX w vn vx ve)) (hc1 : cmpS ⟨xn, xx, xe⟩ ⟨yn, yx, ye⟩ = (sm, 0)) (hc2 : cmpS ⟨un, ux, ue⟩ ⟨vn, vx, ve⟩ = (pr, 0)) (a1 : decide (lw ≤ 0) = true) (a2 : decide (0 < sm) = false) (a3 : decide (0 ≤ lw) = true) (a4 : decide (sm < 0) = false) (hn2 : n2 = false) (b1 : decide (0 < lw) = false) (b2 : decide (pr ≤ 0) = true) (b3 : decide (lw < 0) = false) (b4 : decide (0 ≤ pr) = true) :
    Calls Tryd.prog 7 #[.int .i64 (B : Int), .int .i64 mode, .int .u64 (ba : Int), .int .u64 (bb : Int), .int .u64 (bc : Int)] w fun e w' => e = .returned (.bool true) ∧ Below w.heap.size w w' := by
  subst hn2
  have HV0 := Lib.hid hv0
  have HV1 := Lib.hid hv1
  have HV2 := Lib.hid hv2
  clear hv0 hv1 hv2
  have HC0 := Lib.hid hc0
  have HC1 := Lib.hid hc1
  have HC2 := Lib.hid hc2
  have H1 := Lib.hid r1
  have H2 := Lib.hid r2
  have H3 := Lib.hid r3
  have H4 := Lib.hid r4
  have HWx := Lib.hid hwx
  have HWy := Lib.hid hwy
  have HWu := Lib.hid hwu
  have HWv := Lib.hid hwv
  clear hc0 hc1 hc2 r1 r2 r3 r4 hwx hwy hwu hwv
  go_enter Tryd.func7, Tryd.ntmps7
  go_wp2_with fail
  refine (awake5_any hT hF).mono ?_
  rintro en w1 ⟨rfl, b⟩
  replace hT := hT.on b
  replace hF := hF.on b
  have BW := b
  clear b
  go_wp2_with fail
  refine (of_fm hf _ hF).mono ?_
  rintro en w2 ⟨rfl, b⟩
  replace hT := hT.on b
  replace hF := hF.on b
  replace BW := Below.step BW b
  clear b
  go_upto_region 4 with fail
  obtain ⟨w3, e_w3⟩ : ∃ w', w2.alloc (.cells #[.int .i64 (B : Int), .int .i64 (P : Int), .int .i64 (W : Int)] 25) = w' := ⟨_, rfl⟩
  have b : Below w2.heap.size w2 w3 := e_w3 ▸ below_lit _ _
  have hs_w3 : w3.heap.size = w2.heap.size + 1 := e_w3 ▸ size_lit w2 _ rfl
  have zf : FB w3 w2.heap.size 25 (B : Int) (P : Int) (W : Int) := e_w3 ▸ FB.made_k w2 rfl 25 _ _ _
  rw [e_w3]
  clear e_w3
  replace hT := hT.on b
  replace hF := hF.on b
  replace BW := Below.step BW b
  clear b
  clear hs_w3
  clear hF
  obtain ⟨zfc0, zfc1, zfc2, zff0, zff1, zff2, zfl⟩ := zf.cells
  go_wp2_with fail
  clear zfc0 zfc1 zfc2 zff0 zff1 zff2 zfl
  obtain ⟨w4, e_w4⟩ : ∃ w', w3.alloc (.cells #[.int .u64 (ba : Int), .int .u64 (bb : Int), .int .u64 (bc : Int)] 22) = w' := ⟨_, rfl⟩
  have b : Below w3.heap.size w3 w4 := e_w4 ▸ below_lit _ _
  have hs_w4 : w4.heap.size = w3.heap.size + 1 := e_w4 ▸ size_lit w3 _ rfl
  have ob : OB w4 w3.heap.size [ba, bb, bc] := e_w4 ▸ OB.three w3 rfl ba bb bc
  rw [e_w4]
  clear e_w4
  replace hT := hT.on b
  replace zf := zf.on b
  replace BW := Below.step BW b
  clear b
  clear hs_w4
  refine (fin3_ok hf ba bb bc hba hbb hbc ob hT HV0.out HV1.out HV2.out).mono ?_
  rintro en w5 ⟨g, cap, cur, V0, v0, V1, v1, V2, v2, rfl, hg, hcur, hcap, hcm, hgs, r0, r1, r2, b⟩
  replace hT := hT.on b
  replace zf := zf.on b
  replace ob := ob.on b
  replace BW := Below.step BW b
  clear b
  clear ob r2
  have zl : R9 w5 g n0 V0 v0 e0 n1 V1 v1 e1 false := ⟨cur, hg, by have := congrArg (List.take 7) hcur; simpa [List.take_take] using this⟩
  clear hg hcur hcap hcm hgs
  have l0 := res_n_le r0 (k := 128) hl0
  have l1 := res_n_le r1 (k := 128) hl1
  obtain ⟨zfc0, zfc1, zfc2, zff0, zff1, zff2, zfl⟩ := zf.cells
  go_wp2_with fail
  clear zfc0 zfc1 zfc2 zff0 zff1 zff2 zfl
  replace hT := hT.on ((Below.refl _ _).drew : Below w5.heap.size w5 w5.drew)
  replace zf := zf.on ((Below.refl _ _).drew : Below w5.heap.size w5 w5.drew)
  replace r0 := r0.on ((Below.refl _ _).drew : Below w5.heap.size w5 w5.drew)
  replace r1 := r1.on ((Below.refl _ _).drew : Below w5.heap.size w5 w5.drew)
  replace zl := zl.on ((Below.refl _ _).drew : Below w5.heap.size w5 w5.drew)
  replace BW := Lib.hid (Below.step BW ((Below.refl _ _).drew : Below w5.heap.size w5 w5.drew))
  go_region_held3 (fun w' => w'.cell? ⟨g, 0, none⟩ = some (.bool n0) ∧ w'.cell? ⟨g, 1, none⟩ = some (.slice V0 v0 v0) ∧ w'.cell? ⟨g, 2, none⟩ = some (.int .i64 e0) ∧ w'.cell? ⟨g, 3, none⟩ = some (.bool n1) ∧ w'.cell? ⟨g, 4, none⟩ = some (.slice V1 v1 v1) ∧ w'.cell? ⟨g, 5, none⟩ = some (.int .i64 e1) ∧ w'.cell? ⟨g, 6, none⟩ = some (.bool false))
    ((first | (with_reducible exact ⟨zl.cells.1, zl.cells.2.1, zl.cells.2.2.1, zl.cells.2.2.2.1, zl.cells.2.2.2.2.1, zl.cells.2.2.2.2.2.1, zl.cells.2.2.2.2.2.2.1⟩)))
    (first
      | (go_at_call 31
         (with_reducible refine (dcmp_as (r0.arg (by omega)) (r1.arg (by omega)) (by omega) (by omega) hT HC0.out).mono ?_)
         rintro en w6 ⟨rfl, b⟩
         replace hT := hT.on b
         replace zf := zf.on b
         replace r0 := r0.on b
         replace r1 := r1.on b
         replace zl := zl.on b
         replace BW := Lib.hid (Below.step BW.out b)
         clear b))
  all_goals replace BW := BW.out
  clear r0 r1
  obtain ⟨zfc0, zfc1, zfc2, zff0, zff1, zff2, zfl⟩ := zf.cells
  go_wp2_with fail
  refine (add_as hf mode ba bc hba hbc hT H1.out).mono ?_
  rintro en w7 ⟨rfl, b⟩
  clear zfc0 zfc1 zfc2 zff0 zff1 zff2 zfl
  replace hT := hT.on b
  replace zf := zf.on b
  replace zl := zl.on b
  replace BW := Below.step BW b
  clear b
  obtain ⟨zfc0, zfc1, zfc2, zff0, zff1, zff2, zfl⟩ := zf.cells
  go_wp2_with fail
  refine (add_as hf mode bb bc hbb hbc hT H2.out).mono ?_
  rintro en w8 ⟨rfl, b⟩
  clear zfc0 zfc1 zfc2 zff0 zff1 zff2 zfl
  replace hT := hT.on b
  replace zf := zf.on b
  replace zl := zl.on b
  replace BW := Below.step BW b
  clear b
  obtain ⟨zfc0, zfc1, zfc2, zff0, zff1, zff2, zfl⟩ := zf.cells
  go_wp2_with fail
  clear zfc0 zfc1 zfc2 zff0 zff1 zff2 zfl
  replace hT := hT.on ((Below.refl _ _).drew : Below w8.heap.size w8 w8.drew)
  replace zf := zf.on ((Below.refl _ _).drew : Below w8.heap.size w8 w8.drew)
  replace zl := zl.on ((Below.refl _ _).drew : Below w8.heap.size w8 w8.drew)
  replace BW := Lib.hid (Below.step BW ((Below.refl _ _).drew : Below w8.heap.size w8 w8.drew))
  go_region_held3 (fun w' => w'.cell? ⟨w2.heap.size, 0, none⟩ = some (.int .i64 (B : Int)) ∧ w'.cell? ⟨w2.heap.size, 1, none⟩ = some (.int .i64 (P : Int)) ∧ w'.cell? ⟨w2.heap.size, 2, none⟩ = some (.int .i64 (W : Int)))
    ((first | (with_reducible exact ⟨zf.cells.1, zf.cells.2.1, zf.cells.2.2.1⟩)))
    (first
      | (go_at_call 32
         (with_reducible refine (HWx.out _ hT).mono ?_)
         rintro en w9 ⟨V_rx, v_rx, rfl, rx, b⟩
         replace hT := hT.on b
         replace zf := zf.on b
         replace zl := zl.on b
         first | (revert ry; intro ry; replace ry := ry.on b) | skip
         replace BW := Lib.hid (Below.step BW.out b)
         have lx := res_n_le rx (k := 128) hlx
         clear b)
      | (go_at_call 32
         (with_reducible refine (HWy.out _ hT).mono ?_)
         rintro en w9 ⟨V_ry, v_ry, rfl, ry, b⟩
         replace hT := hT.on b
         replace zf := zf.on b
         replace zl := zl.on b
         first | (revert rx; intro rx; replace rx := rx.on b) | skip
         replace BW := Lib.hid (Below.step BW.out b)
         have ly := res_n_le ry (k := 128) hly
         clear b)
      | (go_at_call 31
         (with_reducible refine (dcmp_as (rx.arg (by omega)) (ry.arg (by omega)) (by omega) (by omega) hT HC1.out).mono ?_)
         rintro en w9 ⟨rfl, b⟩
         replace hT := hT.on b
         replace zf := zf.on b
         replace zl := zl.on b
         first | (revert rx; intro rx; replace rx := rx.on b) | skip
         first | (revert ry; intro ry; replace ry := ry.on b) | skip
         replace BW := Lib.hid (Below.step BW.out b)
         clear b))
  all_goals replace BW := BW.out
  all_goals (
    clear rx ry
    obtain ⟨zfc0, zfc1, zfc2, zff0, zff1, zff2, zfl⟩ := zf.cells
    go_wp2_with fail
    refine (mul_as hf mode ba bc hba hbc hT H3.out).mono ?_
    rintro en w10 ⟨rfl, b⟩
    clear zfc0 zfc1 zfc2 zff0 zff1 zff2 zfl
    replace hT := hT.on b
    replace zf := zf.on b
    replace zl := zl.on b
    replace BW := Below.step BW b
    clear b
    obtain ⟨zfc0, zfc1, zfc2, zff0, zff1, zff2, zfl⟩ := zf.cells
    go_wp2_with fail
    refine (mul_as hf mode bb bc hbb hbc hT H4.out).mono ?_
    rintro en w11 ⟨rfl, b⟩
    clear zfc0 zfc1 zfc2 zff0 zff1 zff2 zfl
    replace hT := hT.on b
    replace zf := zf.on b
    replace zl := zl.on b
    replace BW := Below.step BW b
    clear b
    obtain ⟨zfc0, zfc1, zfc2, zff0, zff1, zff2, zfl⟩ := zf.cells
    go_wp2_with fail
    clear zfc0 zfc1 zfc2 zff0 zff1 zff2 zfl
    replace hT := hT.on ((Below.refl _ _).drew : Below w11.heap.size w11 w11.drew)
    replace zf := zf.on ((Below.refl _ _).drew : Below w11.heap.size w11 w11.drew)
    replace zl := zl.on ((Below.refl _ _).drew : Below w11.heap.size w11 w11.drew)
    replace BW := Lib.hid (Below.step BW ((Below.refl _ _).drew : Below w11.heap.size w11 w11.drew))
    go_region_held3 (fun w' => w'.cell? ⟨w2.heap.size, 0, none⟩ = some (.int .i64 (B : Int)) ∧ w'.cell? ⟨w2.heap.size, 1, none⟩ = some (.int .i64 (P : Int)) ∧ w'.cell? ⟨w2.heap.size, 2, none⟩ = some (.int .i64 (W : Int)))
      ((first | (with_reducible exact ⟨zf.cells.1, zf.cells.2.1, zf.cells.2.2.1⟩)))
      (first
        | (go_at_call 32
           (with_reducible refine (HWu.out _ hT).mono ?_)
           rintro en w12 ⟨V_ru, v_ru, rfl, ru, b⟩
           replace hT := hT.on b
           replace zf := zf.on b
           replace zl := zl.on b
           first | (revert rv; intro rv; replace rv := rv.on b) | skip
           replace BW := Lib.hid (Below.step BW.out b)
           have lu := res_n_le ru (k := 128) hlu
           clear b)
        | (go_at_call 32
           (with_reducible refine (HWv.out _ hT).mono ?_)
           rintro en w12 ⟨V_rv, v_rv, rfl, rv, b⟩
           replace hT := hT.on b
           replace zf := zf.on b
           replace zl := zl.on b
           first | (revert ru; intro ru; replace ru := ru.on b) | skip
           replace BW := Lib.hid (Below.step BW.out b)
           have lv := res_n_le rv (k := 128) hlv
           clear b)
        | (go_at_call 31
           (with_reducible refine (dcmp_as (ru.arg (by omega)) (rv.arg (by omega)) (by omega) (by omega) hT HC2.out).mono ?_)
           rintro en w12 ⟨rfl, b⟩
           replace hT := hT.on b
           replace zf := zf.on b
           replace zl := zl.on b
           first | (revert ru; intro ru; replace ru := ru.on b) | skip
           first | (revert rv; intro rv; replace rv := rv.on b) | skip
           replace BW := Lib.hid (Below.step BW.out b)
           clear b))
    all_goals replace BW := BW.out
    all_goals (
      clear ru rv
      obtain ⟨zlc0, zlc1, zlc2, zlc3, zlc4, zlc5, zlc6, _⟩ := zl.cells
      go_wp2_with fail
      go_ret
      exact ⟨rfl, BW⟩))
set_option maxHeartbeats 4000000 in
set_option maxRecDepth 100000 in
theorem rises5_gtn {B P W M E H : Nat} {low : Int} (hf : Fm B P W M E H low) (mode : Int) (ba bb bc : Nat) (hba : ba < 18446744073709551616) (hbb : bb < 18446744073709551616) (hbc : bc < 18446744073709551616) {w : World} (hT : Tab w) (hF : Frm w) (m1 : decide (mode < 0) = false) (m2 : decide (5 ≤ mode) = false) {n0 : Bool} {x0 : Nat} {e0 : Int} (hv0 : valS M E H low ba = (⟨n0, x0, e0⟩, 0)) (hl0 : blen x0 ≤ 4096) {n1 : Bool} {x1 : Nat} {e1 : Int} (hv1 : valS M E H low bb = (⟨n1, x1, e1⟩, 0)) (hl1 : blen x1 ≤ 4096) {n2 : Bool} {x2 : Nat} {e2 : Int} (hv2 : valS M E H low bc = (⟨n2, x2, e2⟩, 0)) (hl2 : blen x2 ≤ 4096) {lw sm pr : Int} (hc0 : cmpS ⟨n0, x0, e0⟩ ⟨n1, x1, e1⟩ = (lw, 0)) {t1 t2 t3 t4 : Nat} {f1 f2 f3 f4 : Int} (r1 : addI P M E H low mode ba bc = (t1, f1, 0)) (r2 : addI P M E H low mode bb bc = (t2, f2, 0)) (r3 : mulI P M E H low mode ba bc = (t3, f3, 0)) (r4 : mulI P M E H low mode bb bc = (t4, f4, 0)) {xn : Bool} {xx : Nat} {xe : Int} (hlx : blen xx ≤ 4096) (hwx : ∀ w : World, Tab w → Calls Tryd.prog 32 #[.agg #[.int .i64 (B : Int), .int .i64 (P : Int), .int .i64 (W : Int)], .int .u64 (t1 : Int)] w (PlX w xn xx xe)) {yn : Bool} {yx : Nat} {ye : Int} (hly : blen yx ≤ 4096) (hwy : ∀ w : World, Tab w → Calls Tryd.prog 32 #[.agg #[.int .i64 (B : Int), .int .i64 (P : Int), .int .i64 (W : Int)], .int .u64 (t2 : Int)] w (PlX w yn yx ye)) {un : Bool} {ux : Nat} {ue : Int} (hlu : blen ux ≤ 4096) (hwu : ∀ w : World, Tab w → Calls Tryd.prog 32 #[.agg #[.int .i64 (B : Int), .int .i64 (P : Int), .int .i64 (W : Int)], .int .u64 (t3 : Int)] w (PlX w un ux ue)) {vn : Bool} {vx : Nat} {ve : Int} (hlv : blen vx ≤ 4096) (hwv : ∀ w : World, Tab w → Calls Tryd.prog 32 #[.agg #[.int .i64 (B : Int), .int .i64 (P : Int), .int .i64 (W : Int)], .int .u64 (t4 : Int)] w (PlX w vn vx ve)) (hc1 : cmpS ⟨xn, xx, xe⟩ ⟨yn, yx, ye⟩ = (sm, 0)) (hc2 : cmpS ⟨un, ux, ue⟩ ⟨vn, vx, ve⟩ = (pr, 0)) (a1 : decide (lw ≤ 0) = false) (a3 : decide (0 ≤ lw) = true) (a4 : decide (sm < 0) = false) (hn2 : n2 = true) :
    Calls Tryd.prog 7 #[.int .i64 (B : Int), .int .i64 mode, .int .u64 (ba : Int), .int .u64 (bb : Int), .int .u64 (bc : Int)] w fun e w' => e = .returned (.bool true) ∧ Below w.heap.size w w' := by
  subst hn2
  have HV0 := Lib.hid hv0
  have HV1 := Lib.hid hv1
  have HV2 := Lib.hid hv2
  clear hv0 hv1 hv2
  have HC0 := Lib.hid hc0
  have HC1 := Lib.hid hc1
  have HC2 := Lib.hid hc2
  have H1 := Lib.hid r1
  have H2 := Lib.hid r2
  have H3 := Lib.hid r3
  have H4 := Lib.hid r4
  have HWx := Lib.hid hwx
  have HWy := Lib.hid hwy
  have HWu := Lib.hid hwu
  have HWv := Lib.hid hwv
  clear hc0 hc1 hc2 r1 r2 r3 r4 hwx hwy hwu hwv
  go_enter Tryd.func7, Tryd.ntmps7
  go_wp2_with fail
  refine (awake5_any hT hF).mono ?_
  rintro en w1 ⟨rfl, b⟩
  replace hT := hT.on b
  replace hF := hF.on b
  have BW := b
  clear b
  go_wp2_with fail
  refine (of_fm hf _ hF).mono ?_
  rintro en w2 ⟨rfl, b⟩
  replace hT := hT.on b
  replace hF := hF.on b
  replace BW := Below.step BW b
  clear b
  go_upto_region 4 with fail
  obtain ⟨w3, e_w3⟩ : ∃ w', w2.alloc (.cells #[.int .i64 (B : Int), .int .i64 (P : Int), .int .i64 (W : Int)] 25) = w' := ⟨_, rfl⟩
  have b : Below w2.heap.size w2 w3 := e_w3 ▸ below_lit _ _
  have hs_w3 : w3.heap.size = w2.heap.size + 1 := e_w3 ▸ size_lit w2 _ rfl
  have zf : FB w3 w2.heap.size 25 (B : Int) (P : Int) (W : Int) := e_w3 ▸ FB.made_k w2 rfl 25 _ _ _
  rw [e_w3]
  clear e_w3
  replace hT := hT.on b
  replace hF := hF.on b
  replace BW := Below.step BW b
  clear b
  clear hs_w3
  clear hF
  obtain ⟨zfc0, zfc1, zfc2, zff0, zff1, zff2, zfl⟩ := zf.cells
  go_wp2_with fail
  clear zfc0 zfc1 zfc2 zff0 zff1 zff2 zfl
  obtain ⟨w4, e_w4⟩ : ∃ w', w3.alloc (.cells #[.int .u64 (ba : Int), .int .u64 (bb : Int), .int .u64 (bc : Int)] 22) = w' := ⟨_, rfl⟩
  have b : Below w3.heap.size w3 w4 := e_w4 ▸ below_lit _ _
  have hs_w4 : w4.heap.size = w3.heap.size + 1 := e_w4 ▸ size_lit w3 _ rfl
  have ob : OB w4 w3.heap.size [ba, bb, bc] := e_w4 ▸ OB.three w3 rfl ba bb bc
  rw [e_w4]
  clear e_w4
  replace hT := hT.on b
  replace zf := zf.on b
  replace BW := Below.step BW b
  clear b
  clear hs_w4
  refine (fin3_ok hf ba bb bc hba hbb hbc ob hT HV0.out HV1.out HV2.out).mono ?_
  rintro en w5 ⟨g, cap, cur, V0, v0, V1, v1, V2, v2, rfl, hg, hcur, hcap, hcm, hgs, r0, r1, r2, b⟩
  replace hT := hT.on b
  replace zf := zf.on b
  replace ob := ob.on b
  replace BW := Below.step BW b
  clear b
  clear ob r2
  have zl : R9 w5 g n0 V0 v0 e0 n1 V1 v1 e1 true := ⟨cur, hg, by have := congrArg (List.take 7) hcur; simpa [List.take_take] using this⟩
  clear hg hcur hcap hcm hgs
  have l0 := res_n_le r0 (k := 128) hl0
  have l1 := res_n_le r1 (k := 128) hl1
  obtain ⟨zfc0, zfc1, zfc2, zff0, zff1, zff2, zfl⟩ := zf.cells
  go_wp2_with fail
  clear zfc0 zfc1 zfc2 zff0 zff1 zff2 zfl
  replace hT := hT.on ((Below.refl _ _).drew : Below w5.heap.size w5 w5.drew)
  replace zf := zf.on ((Below.refl _ _).drew : Below w5.heap.size w5 w5.drew)
  replace r0 := r0.on ((Below.refl _ _).drew : Below w5.heap.size w5 w5.drew)
  replace r1 := r1.on ((Below.refl _ _).drew : Below w5.heap.size w5 w5.drew)
  replace zl := zl.on ((Below.refl _ _).drew : Below w5.heap.size w5 w5.drew)
  replace BW := Lib.hid (Below.step BW ((Below.refl _ _).drew : Below w5.heap.size w5 w5.drew))
  go_region_held3 (fun w' => w'.cell? ⟨g, 0, none⟩ = some (.bool n0) ∧ w'.cell? ⟨g, 1, none⟩ = some (.slice V0 v0 v0) ∧ w'.cell? ⟨g, 2, none⟩ = some (.int .i64 e0) ∧ w'.cell? ⟨g, 3, none⟩ = some (.bool n1) ∧ w'.cell? ⟨g, 4, none⟩ = some (.slice V1 v1 v1) ∧ w'.cell? ⟨g, 5, none⟩ = some (.int .i64 e1) ∧ w'.cell? ⟨g, 6, none⟩ = some (.bool true))
    ((first | (with_reducible exact ⟨zl.cells.1, zl.cells.2.1, zl.cells.2.2.1, zl.cells.2.2.2.1, zl.cells.2.2.2.2.1, zl.cells.2.2.2.2.2.1, zl.cells.2.2.2.2.2.2.1⟩)))
    (first
      | (go_at_call 31
         (with_reducible refine (dcmp_as (r0.arg (by omega)) (r1.arg (by omega)) (by omega) (by omega) hT HC0.out).mono ?_)
         rintro en w6 ⟨rfl, b⟩
         replace hT := hT.on b
         replace zf := zf.on b
         replace r0 := r0.on b
         replace r1 := r1.on b
         replace zl := zl.on b
         replace BW := Lib.hid (Below.step BW.out b)
         clear b))
  all_goals replace BW := BW.out
  clear r0 r1
  obtain ⟨zfc0, zfc1, zfc2, zff0, zff1, zff2, zfl⟩ := zf.cells
  go_wp2_with fail
  refine (add_as hf mode ba bc hba hbc hT H1.out).mono ?_
  rintro en w7 ⟨rfl, b⟩
  clear zfc0 zfc1 zfc2 zff0 zff1 zff2 zfl
  replace hT := hT.on b
  replace zf := zf.on b
  replace zl := zl.on b
  replace BW := Below.step BW b
  clear b
  obtain ⟨zfc0, zfc1, zfc2, zff0, zff1, zff2, zfl⟩ := zf.cells
  go_wp2_with fail
  refine (add_as hf mode bb bc hbb hbc hT H2.out).mono ?_
  rintro en w8 ⟨rfl, b⟩
  clear zfc0 zfc1 zfc2 zff0 zff1 zff2 zfl
  replace hT := hT.on b
  replace zf := zf.on b
  replace zl := zl.on b
  replace BW := Below.step BW b
  clear b
  obtain ⟨zfc0, zfc1, zfc2, zff0, zff1, zff2, zfl⟩ := zf.cells
  go_wp2_with fail
  clear zfc0 zfc1 zfc2 zff0 zff1 zff2 zfl
  replace hT := hT.on ((Below.refl _ _).drew : Below w8.heap.size w8 w8.drew)
  replace zf := zf.on ((Below.refl _ _).drew : Below w8.heap.size w8 w8.drew)
  replace zl := zl.on ((Below.refl _ _).drew : Below w8.heap.size w8 w8.drew)
  replace BW := Lib.hid (Below.step BW ((Below.refl _ _).drew : Below w8.heap.size w8 w8.drew))
  go_region_held3 (fun w' => w'.cell? ⟨w2.heap.size, 0, none⟩ = some (.int .i64 (B : Int)) ∧ w'.cell? ⟨w2.heap.size, 1, none⟩ = some (.int .i64 (P : Int)) ∧ w'.cell? ⟨w2.heap.size, 2, none⟩ = some (.int .i64 (W : Int)))
    ((first | (with_reducible exact ⟨zf.cells.1, zf.cells.2.1, zf.cells.2.2.1⟩)))
    (first
      | (go_at_call 32
         (with_reducible refine (HWx.out _ hT).mono ?_)
         rintro en w9 ⟨V_rx, v_rx, rfl, rx, b⟩
         replace hT := hT.on b
         replace zf := zf.on b
         replace zl := zl.on b
         first | (revert ry; intro ry; replace ry := ry.on b) | skip
         replace BW := Lib.hid (Below.step BW.out b)
         have lx := res_n_le rx (k := 128) hlx
         clear b)
      | (go_at_call 32
         (with_reducible refine (HWy.out _ hT).mono ?_)
         rintro en w9 ⟨V_ry, v_ry, rfl, ry, b⟩
         replace hT := hT.on b
         replace zf := zf.on b
         replace zl := zl.on b
         first | (revert rx; intro rx; replace rx := rx.on b) | skip
         replace BW := Lib.hid (Below.step BW.out b)
         have ly := res_n_le ry (k := 128) hly
         clear b)
      | (go_at_call 31
         (with_reducible refine (dcmp_as (rx.arg (by omega)) (ry.arg (by omega)) (by omega) (by omega) hT HC1.out).mono ?_)
         rintro en w9 ⟨rfl, b⟩
         replace hT := hT.on b
         replace zf := zf.on b
         replace zl := zl.on b
         first | (revert rx; intro rx; replace rx := rx.on b) | skip
         first | (revert ry; intro ry; replace ry := ry.on b) | skip
         replace BW := Lib.hid (Below.step BW.out b)
         clear b))
  all_goals replace BW := BW.out
  all_goals (
    clear rx ry
    obtain ⟨zfc0, zfc1, zfc2, zff0, zff1, zff2, zfl⟩ := zf.cells
    go_wp2_with fail
    refine (mul_as hf mode ba bc hba hbc hT H3.out).mono ?_
    rintro en w10 ⟨rfl, b⟩
    clear zfc0 zfc1 zfc2 zff0 zff1 zff2 zfl
    replace hT := hT.on b
    replace zf := zf.on b
    replace zl := zl.on b
    replace BW := Below.step BW b
    clear b
    obtain ⟨zfc0, zfc1, zfc2, zff0, zff1, zff2, zfl⟩ := zf.cells
    go_wp2_with fail
    refine (mul_as hf mode bb bc hbb hbc hT H4.out).mono ?_
    rintro en w11 ⟨rfl, b⟩
    clear zfc0 zfc1 zfc2 zff0 zff1 zff2 zfl
    replace hT := hT.on b
    replace zf := zf.on b
    replace zl := zl.on b
    replace BW := Below.step BW b
    clear b
    obtain ⟨zfc0, zfc1, zfc2, zff0, zff1, zff2, zfl⟩ := zf.cells
    go_wp2_with fail
    clear zfc0 zfc1 zfc2 zff0 zff1 zff2 zfl
    replace hT := hT.on ((Below.refl _ _).drew : Below w11.heap.size w11 w11.drew)
    replace zf := zf.on ((Below.refl _ _).drew : Below w11.heap.size w11 w11.drew)
    replace zl := zl.on ((Below.refl _ _).drew : Below w11.heap.size w11 w11.drew)
    replace BW := Lib.hid (Below.step BW ((Below.refl _ _).drew : Below w11.heap.size w11 w11.drew))
    go_region_held3 (fun w' => w'.cell? ⟨w2.heap.size, 0, none⟩ = some (.int .i64 (B : Int)) ∧ w'.cell? ⟨w2.heap.size, 1, none⟩ = some (.int .i64 (P : Int)) ∧ w'.cell? ⟨w2.heap.size, 2, none⟩ = some (.int .i64 (W : Int)))
      ((first | (with_reducible exact ⟨zf.cells.1, zf.cells.2.1, zf.cells.2.2.1⟩)))
      (first
        | (go_at_call 32
           (with_reducible refine (HWu.out _ hT).mono ?_)
           rintro en w12 ⟨V_ru, v_ru, rfl, ru, b⟩
           replace hT := hT.on b
           replace zf := zf.on b
           replace zl := zl.on b
           first | (revert rv; intro rv; replace rv := rv.on b) | skip
           replace BW := Lib.hid (Below.step BW.out b)
           have lu := res_n_le ru (k := 128) hlu
           clear b)
        | (go_at_call 32
           (with_reducible refine (HWv.out _ hT).mono ?_)
           rintro en w12 ⟨V_rv, v_rv, rfl, rv, b⟩
           replace hT := hT.on b
           replace zf := zf.on b
           replace zl := zl.on b
           first | (revert ru; intro ru; replace ru := ru.on b) | skip
           replace BW := Lib.hid (Below.step BW.out b)
           have lv := res_n_le rv (k := 128) hlv
           clear b)
        | (go_at_call 31
           (with_reducible refine (dcmp_as (ru.arg (by omega)) (rv.arg (by omega)) (by omega) (by omega) hT HC2.out).mono ?_)
           rintro en w12 ⟨rfl, b⟩
           replace hT := hT.on b
           replace zf := zf.on b
           replace zl := zl.on b
           first | (revert ru; intro ru; replace ru := ru.on b) | skip
           first | (revert rv; intro rv; replace rv := rv.on b) | skip
           replace BW := Lib.hid (Below.step BW.out b)
           clear b))
    all_goals replace BW := BW.out
    all_goals (
      clear ru rv
      obtain ⟨zlc0, zlc1, zlc2, zlc3, zlc4, zlc5, zlc6, _⟩ := zl.cells
      go_wp2_with fail
      go_ret
      exact ⟨rfl, BW⟩))
set_option maxHeartbeats 4000000 in
set_option maxRecDepth 100000 in
theorem rises5_gtp {B P W M E H : Nat} {low : Int} (hf : Fm B P W M E H low) (mode : Int) (ba bb bc : Nat) (hba : ba < 18446744073709551616) (hbb : bb < 18446744073709551616) (hbc : bc < 18446744073709551616) {w : World} (hT : Tab w) (hF : Frm w) (m1 : decide (mode < 0) = false) (m2 : decide (5 ≤ mode) = false) {n0 : Bool} {x0 : Nat} {e0 : Int} (hv0 : valS M E H low ba = (⟨n0, x0, e0⟩, 0)) (hl0 : blen x0 ≤ 4096) {n1 : Bool} {x1 : Nat} {e1 : Int} (hv1 : valS M E H low bb = (⟨n1, x1, e1⟩, 0)) (hl1 : blen x1 ≤ 4096) {n2 : Bool} {x2 : Nat} {e2 : Int} (hv2 : valS M E H low bc = (⟨n2, x2, e2⟩, 0)) (hl2 : blen x2 ≤ 4096) {lw sm pr : Int} (hc0 : cmpS ⟨n0, x0, e0⟩ ⟨n1, x1, e1⟩ = (lw, 0)) {t1 t2 t3 t4 : Nat} {f1 f2 f3 f4 : Int} (r1 : addI P M E H low mode ba bc = (t1, f1, 0)) (r2 : addI P M E H low mode bb bc = (t2, f2, 0)) (r3 : mulI P M E H low mode ba bc = (t3, f3, 0)) (r4 : mulI P M E H low mode bb bc = (t4, f4, 0)) {xn : Bool} {xx : Nat} {xe : Int} (hlx : blen xx ≤ 4096) (hwx : ∀ w : World, Tab w → Calls Tryd.prog 32 #[.agg #[.int .i64 (B : Int), .int .i64 (P : Int), .int .i64 (W : Int)], .int .u64 (t1 : Int)] w (PlX w xn xx xe)) {yn : Bool} {yx : Nat} {ye : Int} (hly : blen yx ≤ 4096) (hwy : ∀ w : World, Tab w → Calls Tryd.prog 32 #[.agg #[.int .i64 (B : Int), .int .i64 (P : Int), .int .i64 (W : Int)], .int .u64 (t2 : Int)] w (PlX w yn yx ye)) {un : Bool} {ux : Nat} {ue : Int} (hlu : blen ux ≤ 4096) (hwu : ∀ w : World, Tab w → Calls Tryd.prog 32 #[.agg #[.int .i64 (B : Int), .int .i64 (P : Int), .int .i64 (W : Int)], .int .u64 (t3 : Int)] w (PlX w un ux ue)) {vn : Bool} {vx : Nat} {ve : Int} (hlv : blen vx ≤ 4096) (hwv : ∀ w : World, Tab w → Calls Tryd.prog 32 #[.agg #[.int .i64 (B : Int), .int .i64 (P : Int), .int .i64 (W : Int)], .int .u64 (t4 : Int)] w (PlX w vn vx ve)) (hc1 : cmpS ⟨xn, xx, xe⟩ ⟨yn, yx, ye⟩ = (sm, 0)) (hc2 : cmpS ⟨un, ux, ue⟩ ⟨vn, vx, ve⟩ = (pr, 0)) (a1 : decide (lw ≤ 0) = false) (a3 : decide (0 ≤ lw) = true) (a4 : decide (sm < 0) = false) (hn2 : n2 = false) (b1 : decide (0 < lw) = true) (b3 : decide (lw < 0) = false) (b4 : decide (0 ≤ pr) = true) :
    Calls Tryd.prog 7 #[.int .i64 (B : Int), .int .i64 mode, .int .u64 (ba : Int), .int .u64 (bb : Int), .int .u64 (bc : Int)] w fun e w' => e = .returned (.bool true) ∧ Below w.heap.size w w' := by
  subst hn2
  have HV0 := Lib.hid hv0
  have HV1 := Lib.hid hv1
  have HV2 := Lib.hid hv2
  clear hv0 hv1 hv2
  have HC0 := Lib.hid hc0
  have HC1 := Lib.hid hc1
  have HC2 := Lib.hid hc2
  have H1 := Lib.hid r1
  have H2 := Lib.hid r2
  have H3 := Lib.hid r3
  have H4 := Lib.hid r4
  have HWx := Lib.hid hwx
  have HWy := Lib.hid hwy
  have HWu := Lib.hid hwu
  have HWv := Lib.hid hwv
  clear hc0 hc1 hc2 r1 r2 r3 r4 hwx hwy hwu hwv
  go_enter Tryd.func7, Tryd.ntmps7
  go_wp2_with fail
  refine (awake5_any hT hF).mono ?_
  rintro en w1 ⟨rfl, b⟩
  replace hT := hT.on b
  replace hF := hF.on b
  have BW := b
  clear b
  go_wp2_with fail
  refine (of_fm hf _ hF).mono ?_
  rintro en w2 ⟨rfl, b⟩
  replace hT := hT.on b
  replace hF := hF.on b
  replace BW := Below.step BW b
  clear b
  go_upto_region 4 with fail
  obtain ⟨w3, e_w3⟩ : ∃ w', w2.alloc (.cells #[.int .i64 (B : Int), .int .i64 (P : Int), .int .i64 (W : Int)] 25) = w' := ⟨_, rfl⟩
  have b : Below w2.heap.size w2 w3 := e_w3 ▸ below_lit _ _
  have hs_w3 : w3.heap.size = w2.heap.size + 1 := e_w3 ▸ size_lit w2 _ rfl
  have zf : FB w3 w2.heap.size 25 (B : Int) (P : Int) (W : Int) := e_w3 ▸ FB.made_k w2 rfl 25 _ _ _
  rw [e_w3]
  clear e_w3
  replace hT := hT.on b
  replace hF := hF.on b
  replace BW := Below.step BW b
  clear b
  clear hs_w3
  clear hF
  obtain ⟨zfc0, zfc1, zfc2, zff0, zff1, zff2, zfl⟩ := zf.cells
  go_wp2_with fail
  clear zfc0 zfc1 zfc2 zff0 zff1 zff2 zfl
  obtain ⟨w4, e_w4⟩ : ∃ w', w3.alloc (.cells #[.int .u64 (ba : Int), .int .u64 (bb : Int), .int .u64 (bc : Int)] 22) = w' := ⟨_, rfl⟩
  have b : Below w3.heap.size w3 w4 := e_w4 ▸ below_lit _ _
  have hs_w4 : w4.heap.size = w3.heap.size + 1 := e_w4 ▸ size_lit w3 _ rfl
  have ob : OB w4 w3.heap.size [ba, bb, bc] := e_w4 ▸ OB.three w3 rfl ba bb bc
  rw [e_w4]
  clear e_w4
  replace hT := hT.on b
  replace zf := zf.on b
  replace BW := Below.step BW b
  clear b
  clear hs_w4
  refine (fin3_ok hf ba bb bc hba hbb hbc ob hT HV0.out HV1.out HV2.out).mono ?_
  rintro en w5 ⟨g, cap, cur, V0, v0, V1, v1, V2, v2, rfl, hg, hcur, hcap, hcm, hgs, r0, r1, r2, b⟩
  replace hT := hT.on b
  replace zf := zf.on b
  replace ob := ob.on b
  replace BW := Below.step BW b
  clear b
  clear ob r2
  have zl : R9 w5 g n0 V0 v0 e0 n1 V1 v1 e1 false := ⟨cur, hg, by have := congrArg (List.take 7) hcur; simpa [List.take_take] using this⟩
  clear hg hcur hcap hcm hgs
  have l0 := res_n_le r0 (k := 128) hl0
  have l1 := res_n_le r1 (k := 128) hl1
  obtain ⟨zfc0, zfc1, zfc2, zff0, zff1, zff2, zfl⟩ := zf.cells
  go_wp2_with fail
  clear zfc0 zfc1 zfc2 zff0 zff1 zff2 zfl
  replace hT := hT.on ((Below.refl _ _).drew : Below w5.heap.size w5 w5.drew)
  replace zf := zf.on ((Below.refl _ _).drew : Below w5.heap.size w5 w5.drew)
  replace r0 := r0.on ((Below.refl _ _).drew : Below w5.heap.size w5 w5.drew)
  replace r1 := r1.on ((Below.refl _ _).drew : Below w5.heap.size w5 w5.drew)
  replace zl := zl.on ((Below.refl _ _).drew : Below w5.heap.size w5 w5.drew)
  replace BW := Lib.hid (Below.step BW ((Below.refl _ _).drew : Below w5.heap.size w5 w5.drew))
  go_region_held3 (fun w' => w'.cell? ⟨g, 0, none⟩ = some (.bool n0) ∧ w'.cell? ⟨g, 1, none⟩ = some (.slice V0 v0 v0) ∧ w'.cell? ⟨g, 2, none⟩ = some (.int .i64 e0) ∧ w'.cell? ⟨g, 3, none⟩ = some (.bool n1) ∧ w'.cell? ⟨g, 4, none⟩ = some (.slice V1 v1 v1) ∧ w'.cell? ⟨g, 5, none⟩ = some (.int .i64 e1) ∧ w'.cell? ⟨g, 6, none⟩ = some (.bool false))
    ((first | (with_reducible exact ⟨zl.cells.1, zl.cells.2.1, zl.cells.2.2.1, zl.cells.2.2.2.1, zl.cells.2.2.2.2.1, zl.cells.2.2.2.2.2.1, zl.cells.2.2.2.2.2.2.1⟩)))
    (first
      | (go_at_call 31
         (with_reducible refine (dcmp_as (r0.arg (by omega)) (r1.arg (by omega)) (by omega) (by omega) hT HC0.out).mono ?_)
         rintro en w6 ⟨rfl, b⟩
         replace hT := hT.on b
         replace zf := zf.on b
         replace r0 := r0.on b
         replace r1 := r1.on b
         replace zl := zl.on b
         replace BW := Lib.hid (Below.step BW.out b)
         clear b))
  all_goals replace BW := BW.out
  clear r0 r1
  obtain ⟨zfc0, zfc1, zfc2, zff0, zff1, zff2, zfl⟩ := zf.cells
  go_wp2_with fail
  refine (add_as hf mode ba bc hba hbc hT H1.out).mono ?_
  rintro en w7 ⟨rfl, b⟩
  clear zfc0 zfc1 zfc2 zff0 zff1 zff2 zfl
  replace hT := hT.on b
  replace zf := zf.on b
  replace zl := zl.on b
  replace BW := Below.step BW b
  clear b
  obtain ⟨zfc0, zfc1, zfc2, zff0, zff1, zff2, zfl⟩ := zf.cells
  go_wp2_with fail
  refine (add_as hf mode bb bc hbb hbc hT H2.out).mono ?_
  rintro en w8 ⟨rfl, b⟩
  clear zfc0 zfc1 zfc2 zff0 zff1 zff2 zfl
  replace hT := hT.on b
  replace zf := zf.on b
  replace zl := zl.on b
  replace BW := Below.step BW b
  clear b
  obtain ⟨zfc0, zfc1, zfc2, zff0, zff1, zff2, zfl⟩ := zf.cells
  go_wp2_with fail
  clear zfc0 zfc1 zfc2 zff0 zff1 zff2 zfl
  replace hT := hT.on ((Below.refl _ _).drew : Below w8.heap.size w8 w8.drew)
  replace zf := zf.on ((Below.refl _ _).drew : Below w8.heap.size w8 w8.drew)
  replace zl := zl.on ((Below.refl _ _).drew : Below w8.heap.size w8 w8.drew)
  replace BW := Lib.hid (Below.step BW ((Below.refl _ _).drew : Below w8.heap.size w8 w8.drew))
  go_region_held3 (fun w' => w'.cell? ⟨w2.heap.size, 0, none⟩ = some (.int .i64 (B : Int)) ∧ w'.cell? ⟨w2.heap.size, 1, none⟩ = some (.int .i64 (P : Int)) ∧ w'.cell? ⟨w2.heap.size, 2, none⟩ = some (.int .i64 (W : Int)))
    ((first | (with_reducible exact ⟨zf.cells.1, zf.cells.2.1, zf.cells.2.2.1⟩)))
    (first
      | (go_at_call 32
         (with_reducible refine (HWx.out _ hT).mono ?_)
         rintro en w9 ⟨V_rx, v_rx, rfl, rx, b⟩
         replace hT := hT.on b
         replace zf := zf.on b
         replace zl := zl.on b
         first | (revert ry; intro ry; replace ry := ry.on b) | skip
         replace BW := Lib.hid (Below.step BW.out b)
         have lx := res_n_le rx (k := 128) hlx
         clear b)
      | (go_at_call 32
         (with_reducible refine (HWy.out _ hT).mono ?_)
         rintro en w9 ⟨V_ry, v_ry, rfl, ry, b⟩
         replace hT := hT.on b
         replace zf := zf.on b
         replace zl := zl.on b
         first | (revert rx; intro rx; replace rx := rx.on b) | skip
         replace BW := Lib.hid (Below.step BW.out b)
         have ly := res_n_le ry (k := 128) hly
         clear b)
      | (go_at_call 31
         (with_reducible refine (dcmp_as (rx.arg (by omega)) (ry.arg (by omega)) (by omega) (by omega) hT HC1.out).mono ?_)
         rintro en w9 ⟨rfl, b⟩
         replace hT := hT.on b
         replace zf := zf.on b
         replace zl := zl.on b
         first | (revert rx; intro rx; replace rx := rx.on b) | skip
         first | (revert ry; intro ry; replace ry := ry.on b) | skip
         replace BW := Lib.hid (Below.step BW.out b)
         clear b))
  all_goals replace BW := BW.out
  all_goals (
    clear rx ry
    obtain ⟨zfc0, zfc1, zfc2, zff0, zff1, zff2, zfl⟩ := zf.cells
    go_wp2_with fail
    refine (mul_as hf mode ba bc hba hbc hT H3.out).mono ?_
    rintro en w10 ⟨rfl, b⟩
    clear zfc0 zfc1 zfc2 zff0 zff1 zff2 zfl
    replace hT := hT.on b
    replace zf := zf.on b
    replace zl := zl.on b
    replace BW := Below.step BW b
    clear b
    obtain ⟨zfc0, zfc1, zfc2, zff0, zff1, zff2, zfl⟩ := zf.cells
    go_wp2_with fail
    refine (mul_as hf mode bb bc hbb hbc hT H4.out).mono ?_
    rintro en w11 ⟨rfl, b⟩
    clear zfc0 zfc1 zfc2 zff0 zff1 zff2 zfl
    replace hT := hT.on b
    replace zf := zf.on b
    replace zl := zl.on b
    replace BW := Below.step BW b
    clear b
    obtain ⟨zfc0, zfc1, zfc2, zff0, zff1, zff2, zfl⟩ := zf.cells
    go_wp2_with fail
    clear zfc0 zfc1 zfc2 zff0 zff1 zff2 zfl
    replace hT := hT.on ((Below.refl _ _).drew : Below w11.heap.size w11 w11.drew)
    replace zf := zf.on ((Below.refl _ _).drew : Below w11.heap.size w11 w11.drew)
    replace zl := zl.on ((Below.refl _ _).drew : Below w11.heap.size w11 w11.drew)
    replace BW := Lib.hid (Below.step BW ((Below.refl _ _).drew : Below w11.heap.size w11 w11.drew))
    go_region_held3 (fun w' => w'.cell? ⟨w2.heap.size, 0, none⟩ = some (.int .i64 (B : Int)) ∧ w'.cell? ⟨w2.heap.size, 1, none⟩ = some (.int .i64 (P : Int)) ∧ w'.cell? ⟨w2.heap.size, 2, none⟩ = some (.int .i64 (W : Int)))
      ((first | (with_reducible exact ⟨zf.cells.1, zf.cells.2.1, zf.cells.2.2.1⟩)))
      (first
        | (go_at_call 32
           (with_reducible refine (HWu.out _ hT).mono ?_)
           rintro en w12 ⟨V_ru, v_ru, rfl, ru, b⟩
           replace hT := hT.on b
           replace zf := zf.on b
           replace zl := zl.on b
           first | (revert rv; intro rv; replace rv := rv.on b) | skip
           replace BW := Lib.hid (Below.step BW.out b)
           have lu := res_n_le ru (k := 128) hlu
           clear b)
        | (go_at_call 32
           (with_reducible refine (HWv.out _ hT).mono ?_)
           rintro en w12 ⟨V_rv, v_rv, rfl, rv, b⟩
           replace hT := hT.on b
           replace zf := zf.on b
           replace zl := zl.on b
           first | (revert ru; intro ru; replace ru := ru.on b) | skip
           replace BW := Lib.hid (Below.step BW.out b)
           have lv := res_n_le rv (k := 128) hlv
           clear b)
        | (go_at_call 31
           (with_reducible refine (dcmp_as (ru.arg (by omega)) (rv.arg (by omega)) (by omega) (by omega) hT HC2.out).mono ?_)
           rintro en w12 ⟨rfl, b⟩
           replace hT := hT.on b
           replace zf := zf.on b
           replace zl := zl.on b
           first | (revert ru; intro ru; replace ru := ru.on b) | skip
           first | (revert rv; intro rv; replace rv := rv.on b) | skip
           replace BW := Lib.hid (Below.step BW.out b)
           clear b))
    all_goals replace BW := BW.out
    all_goals (
      clear ru rv
      obtain ⟨zlc0, zlc1, zlc2, zlc3, zlc4, zlc5, zlc6, _⟩ := zl.cells
      go_wp2_with fail
      go_ret
      exact ⟨rfl, BW⟩))
theorem add_wide {B P W M E H : Nat} {low : Int} (hf : Fm B P W M E H low) {mode : Int} (hm : 0 ≤ mode ∧ mode ≤ 4) {a c : Nat} (ha : a < 2 * H) (hc : c < 2 * H) (ca : clsS M E a ≤ 2) (cc : clsS M E c ≤ 2) : ∃ (t : Nat) (f : Int), addI P M E H low mode a c = (t, f, 0) ∧
    ∃ (vn : Bool) (vx : Nat) (ve : Int), D.may ⟨vn, vx, ve⟩ = true ∧ (⟨vn, vx, ve⟩ : D).vl = rndZ P M E low BIG mode ((valS M E H low a).1.vl + (valS M E H low c).1.vl) ∧ blen vx ≤ 4096 ∧ ∀ w : World, Tab w → Calls Tryd.prog 32 #[.agg #[.int .i64 (B : Int), .int .i64 (P : Int), .int .i64 (W : Int)], .int .u64 (t : Int)] w (PlX w vn vx ve) := by
  have na : nanB M E a = false := by unfold nanB; exact decide_eq_false (by omega)
  have nc : nanB M E c = false := by unfold nanB; exact decide_eq_false (by omega)
  have ia : infB M E a = false := by unfold infB; exact decide_eq_false (by omega)
  have ic : infB M E c = false := by unfold infB; exact decide_eq_false (by omega)
  have h1 := addI_num P M E H low hm ha hc na nc
  have hT : sumT P M E H low mode (tmS M E H low a) (tmS M E H low c) = roundS P M E H low mode (D.add (valS M E H low a).1 (valS M E H low c).1) (ntS mode (ngB H a) (ngB H c)) := by
    unfold sumT bitsS tmS
    simp only [ia, ic, Bool.false_and, Bool.false_eq_true, if_false]
  rw [hT] at h1
  obtain ⟨a1, a2, a3, a4⟩ := val_add hf a c
  have va := val_in hf a
  have vc := val_in hf c
  obtain ⟨⟨t, f, e⟩, hr⟩ : ∃ r, roundS P M E H low mode (D.add (valS M E H low a).1 (valS M E H low c).1) (ntS mode (ngB H a) (ngB H c)) = r := ⟨_, rfl⟩
  obtain ⟨g, k, k1, k2, k3, k4⟩ := told_vl hf hm a3 _ hr
  rw [hr, k3] at h1
  rw [D.add_vl (by omega) (by omega)] at k4
  obtain ⟨vn, vx, ve, w1, w2, w3, w4⟩ := wide_as hf g k k1 k2
  exact ⟨t, f, h1, vn, vx, ve, w1, by rw [w2, k4], w3, w4⟩
theorem mul_wide {B P W M E H : Nat} {low : Int} (hf : Fm B P W M E H low) {mode : Int} (hm : 0 ≤ mode ∧ mode ≤ 4) {a c : Nat} (ha : a < 2 * H) (hc : c < 2 * H) (ca : clsS M E a ≤ 2) (cc : clsS M E c ≤ 2) : ∃ (t : Nat) (f : Int), mulI P M E H low mode a c = (t, f, 0) ∧
    ∃ (vn : Bool) (vx : Nat) (ve : Int), D.may ⟨vn, vx, ve⟩ = true ∧ (⟨vn, vx, ve⟩ : D).vl = rndZ P M E low BIG mode ((D.mul (valS M E H low a).1 (valS M E H low c).1).vl) ∧ blen vx ≤ 4096 ∧ ∀ w : World, Tab w → Calls Tryd.prog 32 #[.agg #[.int .i64 (B : Int), .int .i64 (P : Int), .int .i64 (W : Int)], .int .u64 (t : Int)] w (PlX w vn vx ve) := by
  have na : nanB M E a = false := by unfold nanB; exact decide_eq_false (by omega)
  have nc : nanB M E c = false := by unfold nanB; exact decide_eq_false (by omega)
  have ia : infB M E a = false := by unfold infB; exact decide_eq_false (by omega)
  have ic : infB M E c = false := by unfold infB; exact decide_eq_false (by omega)
  have hvn : vainB M E a c = false := by unfold vainB; rw [ia, ic]; simp
  have h1 := mulI_num P M E H low hm ha hc na nc
  rw [hvn, if_neg (by decide)] at h1
  have hT : bitsS P M E H low mode (prodT (tmS M E H low a) (tmS M E H low c)) = roundS P M E H low mode (D.mul (valS M E H low a).1 (valS M E H low c).1) (ngB H a != ngB H c) := by
    unfold bitsS prodT tmS
    simp only [ia, ic, Bool.or_self, Bool.false_eq_true, if_false]
  rw [hT] at h1
  obtain ⟨a1, a2, a3, a4⟩ := val_mul hf a c
  obtain ⟨⟨t, f, e⟩, hr⟩ : ∃ r, roundS P M E H low mode (D.mul (valS M E H low a).1 (valS M E H low c).1) (ngB H a != ngB H c) = r := ⟨_, rfl⟩
  obtain ⟨g, k, k1, k2, k3, k4⟩ := told_vl hf hm a3 _ hr
  rw [hr, k3] at h1
  obtain ⟨vn, vx, ve, w1, w2, w3, w4⟩ := wide_as hf g k k1 k2
  exact ⟨t, f, h1, vn, vx, ve, w1, by rw [w2, k4], w3, w4⟩
theorem rises5_walk (bits : Int) (mode : Int) (ba : Nat) (hba : ba < 18446744073709551616) (bb : Nat) (hbb : bb < 18446744073709551616) (bc : Nat) (hbc : bc < 18446744073709551616) {w : World} (hT : Tab w) (hF : Frm w) :
    Calls Tryd.prog 7 #[.int .i64 bits, .int .i64 mode, .int .u64 (ba : Int), .int .u64 (bb : Int), .int .u64 (bc : Int)] w fun e w' => e = .returned (.bool true) ∧ Below w.heap.size w w' := by
  rcases fm_of bits with ⟨B, P, W, M, E, H, low, hf, rfl⟩ | ⟨h1, h2, h3⟩
  · have hbd := hf.bd
    by_cases m1 : mode < 0
    · exact rises5_m1 hf mode ba bb bc hba hbb hbc hT hF (decide_eq_true m1)
    by_cases m2 : 5 ≤ mode
    · exact rises5_m2 hf mode ba bb bc hba hbb hbc hT hF (decide_eq_false m1) (decide_eq_true m2)
    have hm : 0 ≤ mode ∧ mode ≤ 4 := by omega
    have k1 := decide_eq_false m1
    have k2 := decide_eq_false m2
    obtain ⟨⟨⟨n0, x0, e0⟩, ea⟩, hva⟩ : ∃ r, valS M E H low ba = r := ⟨_, rfl⟩
    obtain ⟨⟨⟨n1, x1, e1⟩, eb⟩, hvb⟩ : ∃ r, valS M E H low bb = r := ⟨_, rfl⟩
    obtain ⟨⟨⟨n2, x2, e2⟩, ec⟩, hvc⟩ : ∃ r, valS M E H low bc = r := ⟨_, rfl⟩
    by_cases ha : ea ≠ 0
    · have hd := val_err hva ha
      rw [hd] at hva
      exact rises5_v0 hf mode ba bb bc hba hbb hbc hT hF k1 k2 hva (by simpa using ha)
    obtain rfl : ea = 0 := by omega
    by_cases hb : eb ≠ 0
    · have hd := val_err hvb hb
      rw [hd] at hvb
      exact rises5_v1 hf mode ba bb bc hba hbb hbc hT hF k1 k2 hva hvb (by simpa using hb)
    obtain rfl : eb = 0 := by omega
    by_cases hc : ec ≠ 0
    · have hd := val_err hvc hc
      rw [hd] at hvc
      exact rises5_v2 hf mode ba bb bc hba hbb hbc hT hF k1 k2 hva hvb hvc (by simpa using hc)
    obtain rfl : ec = 0 := by omega
    obtain ⟨la, ca⟩ := val_ok hf hva
    obtain ⟨lb, cb⟩ := val_ok hf hvb
    obtain ⟨lc, cc⟩ := val_ok hf hvc
    have va := val_in hf ba
    have vb := val_in hf bb
    have vc := val_in hf bc
    obtain ⟨t1, f1, s1, xn, xx, xe, xm, xv, xb, xw⟩ := add_wide hf hm la lc ca cc
    obtain ⟨t2, f2, s2, yn, yx, ye, ym, yv, yb, yw⟩ := add_wide hf hm lb lc cb cc
    obtain ⟨t3, f3, p1, un, ux, ue, um, uv, ub, uw⟩ := mul_wide hf hm la lc ca cc
    obtain ⟨t4, f4, p2, zn, zx, ze, zm, zv, zb, zw⟩ := mul_wide hf hm lb lc cb cc
    have mr : ∀ (hn : n2 = false) (h : (valS M E H low ba).1.vl ≤ (valS M E H low bb).1.vl), (D.mul (valS M E H low ba).1 (valS M E H low bc).1).vl ≤ (D.mul (valS M E H low bb).1 (valS M E H low bc).1).vl := fun hn h => mul_rises (by omega) (by omega) (by omega) (by rw [hvc]; exact hn) h
    have mr' : ∀ (hn : n2 = false) (h : (valS M E H low bb).1.vl ≤ (valS M E H low ba).1.vl), (D.mul (valS M E H low bb).1 (valS M E H low bc).1).vl ≤ (D.mul (valS M E H low ba).1 (valS M E H low bc).1).vl := fun hn h => mul_rises (by omega) (by omega) (by omega) (by rw [hvc]; exact hn) h
    have q0 := cmpS_ok va.1 vb.1
    have q1 := cmpS_ok xm ym
    have q2 := cmpS_ok um zm
    rw [xv, yv] at q1
    rw [uv, zv] at q2
    have va5 := va.2.2.2.2
    have vb5 := vb.2.2.2.2
    have vc5 := vc.2.2.2.2
    have L1 := cmp_le (P := P) (E := E) (low := low) hf mode (z := (valS M E H low ba).1.vl + (valS M E H low bc).1.vl) (z' := (valS M E H low bb).1.vl + (valS M E H low bc).1.vl)
    have G1 := cmp_ge (P := P) (E := E) (low := low) hf mode (z := (valS M E H low ba).1.vl + (valS M E H low bc).1.vl) (z' := (valS M E H low bb).1.vl + (valS M E H low bc).1.vl)
    have L2 := cmp_le (P := P) (E := E) (low := low) hf mode (z := (D.mul (valS M E H low ba).1 (valS M E H low bc).1).vl) (z' := (D.mul (valS M E H low bb).1 (valS M E H low bc).1).vl)
    have G2 := cmp_ge (P := P) (E := E) (low := low) hf mode (z := (D.mul (valS M E H low ba).1 (valS M E H low bc).1).vl) (z' := (D.mul (valS M E H low bb).1 (valS M E H low bc).1).vl)
    have Q := cmpI_cases (valS M E H low ba).1.vl (valS M E H low bb).1.vl
    clear xv yv uv zv xm ym um zm va vb
    rw [hva, hvb] at q0
    have va6 : blen x0 ≤ 53 := by rw [hva] at va5; exact va5
    have vb6 : blen x1 ≤ 53 := by rw [hvb] at vb5; exact vb5
    have vc6 : blen x2 ≤ 53 := by rw [hvc] at vc5; exact vc5
    clear va5 vb5 vc5 vc
    have q0' : cmpS ⟨n0, x0, e0⟩ ⟨n1, x1, e1⟩ = (cmpI (valS M E H low ba).1.vl (valS M E H low bb).1.vl, 0) := by rw [hva, hvb]; exact q0
    clear q0
    generalize (D.mul (valS M E H low ba).1 (valS M E H low bc).1).vl = ZU at *
    generalize (D.mul (valS M E H low bb).1 (valS M E H low bc).1).vl = ZV at *
    generalize (valS M E H low ba).1.vl = A at *
    generalize (valS M E H low bb).1.vl = A' at *
    generalize (valS M E H low bc).1.vl = C at *
    generalize cmpI (rndZ P M E low BIG mode (A + C)) (rndZ P M E low BIG mode (A' + C)) = sm at *
    generalize cmpI (rndZ P M E low BIG mode ZU) (rndZ P M E low BIG mode ZV) = pr at *
    generalize cmpI A A' = lw at *
    have key : ∀ hn : n2 = false, (A ≤ A' → pr ≤ 0) ∧ (A' ≤ A → 0 ≤ pr) := fun hn => ⟨fun h => L2 (mr hn h), fun h => G2 (mr' hn h)⟩
    clear mr mr' L2 G2
    have L1' : A ≤ A' → sm ≤ 0 := fun h => L1 (by omega)
    have G1' : A' ≤ A → 0 ≤ sm := fun h => G1 (by omega)
    clear L1 G1
    rcases Int.lt_trichotomy A A' with h | h | h
    · have g1 := L1' (by omega)
      by_cases hn : n2 = true
      · exact rises5_ltn hf mode ba bb bc hba hbb hbc hT hF k1 k2 hva (by omega) hvb (by omega) hvc (by omega) q0' s1 s2 p1 p2 xb xw yb yw ub uw zb zw q1 q2 (decide_eq_true (by omega)) (decide_eq_false (by omega)) (decide_eq_false (by omega)) hn
      · have hn' : n2 = false := by simpa using hn
        obtain ⟨j1, j2⟩ := key hn'
        exact rises5_ltp hf mode ba bb bc hba hbb hbc hT hF k1 k2 hva (by omega) hvb (by omega) hvc (by omega) q0' s1 s2 p1 p2 xb xw yb yw ub uw zb zw q1 q2 (decide_eq_true (by omega)) (decide_eq_false (by omega)) (decide_eq_false (by omega)) hn' (decide_eq_false (by omega)) (decide_eq_true (by omega)) (decide_eq_true (by omega))
    · have g1 := L1' (by omega)
      have g2 := G1' (by omega)
      by_cases hn : n2 = true
      · exact rises5_eqn hf mode ba bb bc hba hbb hbc hT hF k1 k2 hva (by omega) hvb (by omega) hvc (by omega) q0' s1 s2 p1 p2 xb xw yb yw ub uw zb zw q1 q2 (decide_eq_true (by omega)) (decide_eq_false (by omega)) (decide_eq_true (by omega)) (decide_eq_false (by omega)) hn
      · have hn' : n2 = false := by simpa using hn
        obtain ⟨j1, j2⟩ := key hn'
        exact rises5_eqp hf mode ba bb bc hba hbb hbc hT hF k1 k2 hva (by omega) hvb (by omega) hvc (by omega) q0' s1 s2 p1 p2 xb xw yb yw ub uw zb zw q1 q2 (decide_eq_true (by omega)) (decide_eq_false (by omega)) (decide_eq_true (by omega)) (decide_eq_false (by omega)) hn' (decide_eq_false (by omega)) (decide_eq_true (by omega)) (decide_eq_false (by omega)) (decide_eq_true (by omega))
    · have g2 := G1' (by omega)
      by_cases hn : n2 = true
      · exact rises5_gtn hf mode ba bb bc hba hbb hbc hT hF k1 k2 hva (by omega) hvb (by omega) hvc (by omega) q0' s1 s2 p1 p2 xb xw yb yw ub uw zb zw q1 q2 (decide_eq_false (by omega)) (decide_eq_true (by omega)) (decide_eq_false (by omega)) hn
      · have hn' : n2 = false := by simpa using hn
        obtain ⟨j1, j2⟩ := key hn'
        exact rises5_gtp hf mode ba bb bc hba hbb hbc hT hF k1 k2 hva (by omega) hvb (by omega) hvc (by omega) q0' s1 s2 p1 p2 xb xw yb yw ub uw zb zw q1 q2 (decide_eq_false (by omega)) (decide_eq_true (by omega)) (decide_eq_false (by omega)) hn' (decide_eq_true (by omega)) (decide_eq_false (by omega)) (decide_eq_true (by omega))
  · exact rises5_bad bits mode ba bb bc h1 h2 h3 hT hF
end Go.Proofs.YtpachoeignpcbaaDoor
