/-
  What the proofs of OptSweeps and OptSettles need: Oe Of Og.
-/
import Derived.Test.YtcehklnonhalhaaSOOc
namespace Go.Proofs.Ytcehklnonhalhaa
set_option linter.unusedVariables false
set_option maxRecDepth 4000

theorem lx_mk {N : List Nd} {I O : List Pt} {dd L : List Nat} (hw : wrongS N I O = 0) (hlv : levS N = some dd) (ho : ordO (some dd) = nI L) : LvN N I O dd L := by
  have hl : levelS N I O = (some dd, 0) := by
    unfold levelS
    rw [hw, hlv]
    rfl
  obtain ⟨L', lx⟩ := lv_x hl
  obtain rfl := nI_inj (lx.ord.symm.trans ho)
  exact lx
def t12 : Tn := ⟨[⟨0, 0, 0, 0⟩, ⟨1, 0, 0, 0⟩, ⟨2, 0, 0, 0⟩, ⟨3, 1, 2, 0⟩], [⟨⟨#[97]⟩, [1]⟩], [⟨⟨#[122]⟩, [3]⟩]⟩
def u12 : Tn := ⟨[⟨0, 0, 0, 0⟩, ⟨1, 0, 0, 0⟩, ⟨0, 1, 0, 0⟩, ⟨3, 1, 2, 0⟩], [⟨⟨#[97]⟩, [1]⟩], [⟨⟨#[122]⟩, [1]⟩]⟩
def v12 : Tn := ⟨[⟨1, 0, 0, 0⟩], [⟨⟨#[97]⟩, [0]⟩], [⟨⟨#[122]⟩, [0]⟩]⟩
theorem lv_t12 : levS t12.N = some [0, 0, 1, 2] := by
  have h : All t12.N (fun i => [0, 0, 1, 2].getD i 0) := by
    intro i hi
    have hi : i < 4 := hi
    rcases (show i = 0 ∨ i = 1 ∨ i = 2 ∨ i = 3 by omega) with rfl | rfl | rfl | rfl
    all_goals exact ⟨_, rfl, by decide, by decide⟩
  rw [levS_is h]
  rfl
theorem lv_u12 : levS u12.N = some [0, 0, 0, 1] := by
  have h : All u12.N (fun i => [0, 0, 0, 1].getD i 0) := by
    intro i hi
    have hi : i < 4 := hi
    rcases (show i = 0 ∨ i = 1 ∨ i = 2 ∨ i = 3 by omega) with rfl | rfl | rfl | rfl
    all_goals exact ⟨_, rfl, by decide, by decide⟩
  rw [levS_is h]
  rfl
theorem lv_v12 : levS v12.N = some [0] := by
  have h : All v12.N (fun i => [0].getD i 0) := by
    intro i hi
    have hi : i < 1 := hi
    obtain rfl : i = 0 := by omega
    exact ⟨_, rfl, by decide, by decide⟩
  rw [levS_is h]
  rfl
theorem lx_t12 : LvN t12.N t12.I t12.O [0, 0, 1, 2] [0, 1, 2, 3] := lx_mk (by decide +kernel) lv_t12 (by decide +kernel)
theorem lx_u12 : LvN u12.N u12.I u12.O [0, 0, 0, 1] [0, 1, 2, 3] := lx_mk (by decide +kernel) lv_u12 (by decide +kernel)
theorem lx_v12 : LvN v12.N v12.I v12.O [0] [0] := lx_mk (by decide +kernel) lv_v12 (by decide +kernel)
theorem fold_t12 : foldT t12 = (u12, 2) := by
  unfold foldT
  rw [ordT_eq lx_t12]
  kernel_rfl
theorem share_u12 : shareT u12 = (u12, 0) := by
  unfold shareT
  rw [ordT_eq lx_u12]
  kernel_rfl
theorem bits_u12 : bitsT u12 = [false, true, false, false] := by
  refine bitsT_eq ⟨_, _, lx_u12⟩ rfl fun p => ?_
  constructor
  · intro h
    have e : p = 1 := by
      rcases p with _ | _ | _ | _ | p
      · cases h
      · rfl
      · cases h
      · cases h
      · cases h
    subst e
    exact .base (by decide)
  · intro h
    have e : p = 1 := h.closed (G := fun p => p = 1) (fun q hq => by
      have : (q : Int) = 1 := by simpa [comesS, u12] using hq
      omega) fun q hq y hy => by
        subst hq
        have e : usesS (u12.N.getD 1 nd0) = [] := rfl
        rw [e] at hy
        cases hy
    subst e
    rfl
theorem sweep_u12 : sweepT u12 = (v12, 3) := by
  unfold sweepT placT
  rw [bits_u12]
  kernel_rfl
theorem fold_v12 : foldT v12 = (v12, 0) := by
  unfold foldT
  rw [ordT_eq lx_v12]
  kernel_rfl
theorem share_v12 : shareT v12 = (v12, 0) := by
  unfold shareT
  rw [ordT_eq lx_v12]
  kernel_rfl
theorem bits_v12 : bitsT v12 = [true] := by
  refine bitsT_eq ⟨_, _, lx_v12⟩ rfl fun p => ?_
  constructor
  · intro h
    have e : p = 0 := by
      rcases p with _ | p
      · rfl
      · cases h
    subst e
    exact .base (by decide)
  · intro h
    have e : p = 0 := h.closed (G := fun p => p = 0) (fun q hq => by
      have : (q : Int) = 0 := by simpa [comesS, v12] using hq
      omega) fun q hq y hy => by
        subst hq
        have e : usesS (v12.N.getD 0 nd0) = [] := rfl
        rw [e] at hy
        cases hy
    subst e
    rfl
theorem sweep_v12 : sweepT v12 = (v12, 0) := by
  unfold sweepT placT
  rw [bits_v12]
  kernel_rfl
theorem rnd_t12 : roundT true true true t12 = (v12, (2, 0, 3)) := by
  simp only [roundT, partT_t, fold_t12, share_u12, sweep_u12]
theorem rnd_v12 : roundT true true true v12 = (v12, (0, 0, 0)) := by
  simp only [roundT, partT_t, fold_v12, share_v12, sweep_v12]
theorem it1_t12 : itT true true true t12 1 = (v12, (2, 0, 3)) := by
  show ((roundT true true true t12).1, (0 + (roundT true true true t12).2.1, 0 + (roundT true true true t12).2.2.1, 0 + (roundT true true true t12).2.2.2)) = _
  rw [rnd_t12]
  rfl
theorem it2_t12 : itT true true true t12 2 = (v12, (2, 0, 3)) := by
  have e : itT true true true t12 2 = ((roundT true true true (itT true true true t12 1).1).1, ((itT true true true t12 1).2.1 + (roundT true true true (itT true true true t12 1).1).2.1, (itT true true true t12 1).2.2.1 + (roundT true true true (itT true true true t12 1).1).2.2.1, (itT true true true t12 1).2.2.2 + (roundT true true true (itT true true true t12 1).1).2.2.2)) := rfl
  rw [e, it1_t12, rnd_v12]
  rfl
theorem end_t12 : EndK true true true t12 2 := ⟨by omega, by omega, fun j hj => by
  obtain rfl : j = 0 := by omega
  rw [it1_t12]
  intro h
  have : v12.N.length = t12.N.length := congrArg (fun t : Tn => t.N.length) h
  exact absurd this (by decide), .inr ⟨1, rfl, by rw [it2_t12, it1_t12]⟩⟩
theorem end_none (t : Tn) : EndK false false false t 1 ∧ itT false false false t 1 = (t, (0, 0, 0)) := ⟨⟨by omega, by omega, fun j hj => by omega, .inr ⟨0, rfl, rfl⟩⟩, rfl⟩
/-- with Sweeps alone it is what Sweep tells. -/
theorem rnd_sweep (t : Tn) : roundT false false true t = ((sweepT t).1, (0, 0, (sweepT t).2)) := rfl
theorem end_sweep {t : Tn} (hok : OkT t) {k : Nat} (h : EndK false false true t k) : (itT false false true t k).1 = (sweepT t).1 ∧ (itT false false true t k).2 = (0, 0, (sweepT t).2) := by
  have e1 : itT false false true t 1 = ((sweepT t).1, (0, 0, (sweepT t).2)) := by
    show ((roundT false false true t).1, (0 + (roundT false false true t).2.1, 0 + (roundT false false true t).2.2.1, 0 + (roundT false false true t).2.2.2)) = _
    rw [rnd_sweep]
    simp
  have hs := (sweepT_gd hok).2
  have e2 : itT false false true t 2 = ((sweepT t).1, (0, 0, (sweepT t).2)) := by
    have e : itT false false true t 2 = ((roundT false false true (itT false false true t 1).1).1, ((itT false false true t 1).2.1 + (roundT false false true (itT false false true t 1).1).2.1, (itT false false true t 1).2.2.1 + (roundT false false true (itT false false true t 1).1).2.2.1, (itT false false true t 1).2.2.2 + (roundT false false true (itT false false true t 1).1).2.2.2)) := rfl
    rw [e, e1]
    dsimp only
    rw [rnd_sweep, hs]
    simp
  have hk : k ≤ 2 := by
    refine Classical.byContradiction fun n => ?_
    exact h.on 1 (by omega) (by rw [e2, e1])
  have := h.one
  rcases (show k = 1 ∨ k = 2 by omega) with rfl | rfl
  · rw [e1]
    exact ⟨rfl, rfl⟩
  · rw [e2]
    exact ⟨rfl, rfl⟩
end Go.Proofs.Ytcehklnonhalhaa
namespace Go.Proofs.Ytcehklnonhalhaa
open Go.RowKit
set_option linter.unusedVariables false

set_option maxRecDepth 20000 in
set_option maxHeartbeats 8000000 in
theorem awake12_any (w : World) : Calls Try.prog 34 #[] w fun en w' => en = .returned (.bool true) ∧ Below w.heap.size w w' := by
  go_enter Try.func34, Try.ntmps34
  go_upto_region 2 with fail
  obtain ⟨w1, e_w1⟩ : ∃ w', w.alloc (.cells #[.int .i64 0, .int .i64 0, .int .i64 0, .int .i64 0, .int .i64 1, .int .i64 0, .int .i64 0, .int .i64 0, .int .i64 2, .int .i64 0, .int .i64 0, .int .i64 0, .int .i64 3, .int .i64 1, .int .i64 2, .int .i64 0] 43) = w' := ⟨_, rfl⟩
  have b : Below w.heap.size w w1 := e_w1 ▸ below_lit _ _
  have hs_w1 : w1.heap.size = w.heap.size + 1 := e_w1 ▸ size_lit w _ rfl
  have xn : Bx w1 w.heap.size [.int .i64 0, .int .i64 0, .int .i64 0, .int .i64 0, .int .i64 1, .int .i64 0, .int .i64 0, .int .i64 0, .int .i64 2, .int .i64 0, .int .i64 0, .int .i64 0, .int .i64 3, .int .i64 1, .int .i64 2, .int .i64 0] := e_w1 ▸ Bx.made_k w rfl #[.int .i64 0, .int .i64 0, .int .i64 0, .int .i64 0, .int .i64 1, .int .i64 0, .int .i64 0, .int .i64 0, .int .i64 2, .int .i64 0, .int .i64 0, .int .i64 0, .int .i64 3, .int .i64 1, .int .i64 2, .int .i64 0] 43
  rw [e_w1]
  clear e_w1
  have BW := b
  clear b
  obtain ⟨w2, e_w2⟩ : ∃ w', w1.alloc (.cells #[.int .i64 1] 3) = w' := ⟨_, rfl⟩
  have b : Below w1.heap.size w1 w2 := e_w2 ▸ below_lit _ _
  have hs_w2 : w2.heap.size = (w.heap.size + 1) + 1 := e_w2 ▸ size_lit w1 _ hs_w1
  have xa : Bx w2 (w.heap.size + 1) [.int .i64 1] := e_w2 ▸ Bx.made_k w1 hs_w1 #[.int .i64 1] 3
  rw [e_w2]
  clear e_w2
  replace xn := xn.on b
  replace BW := Below.step BW b
  clear b
  obtain ⟨w3, e_w3⟩ : ∃ w', w2.alloc (.cells #[.string ⟨#[97]⟩, .slice (some ⟨(w.heap.size + 1), 0, none⟩) 1 1] 41) = w' := ⟨_, rfl⟩
  have b : Below w2.heap.size w2 w3 := e_w3 ▸ below_lit _ _
  have hs_w3 : w3.heap.size = ((w.heap.size + 1) + 1) + 1 := e_w3 ▸ size_lit w2 _ hs_w2
  have xi : Bx w3 ((w.heap.size + 1) + 1) [.string ⟨#[97]⟩, .slice (some ⟨(w.heap.size + 1), 0, none⟩) 1 1] := e_w3 ▸ Bx.made_k w2 hs_w2 #[.string ⟨#[97]⟩, .slice (some ⟨(w.heap.size + 1), 0, none⟩) 1 1] 41
  rw [e_w3]
  clear e_w3
  replace xn := xn.on b
  replace xa := xa.on b
  replace BW := Below.step BW b
  clear b
  obtain ⟨w4, e_w4⟩ : ∃ w', w3.alloc (.cells #[.int .i64 3] 3) = w' := ⟨_, rfl⟩
  have b : Below w3.heap.size w3 w4 := e_w4 ▸ below_lit _ _
  have hs_w4 : w4.heap.size = (((w.heap.size + 1) + 1) + 1) + 1 := e_w4 ▸ size_lit w3 _ hs_w3
  have xb : Bx w4 (((w.heap.size + 1) + 1) + 1) [.int .i64 3] := e_w4 ▸ Bx.made_k w3 hs_w3 #[.int .i64 3] 3
  rw [e_w4]
  clear e_w4
  replace xn := xn.on b
  replace xa := xa.on b
  replace xi := xi.on b
  replace BW := Below.step BW b
  clear b
  obtain ⟨w5, e_w5⟩ : ∃ w', w4.alloc (.cells #[.string ⟨#[122]⟩, .slice (some ⟨(((w.heap.size + 1) + 1) + 1), 0, none⟩) 1 1] 41) = w' := ⟨_, rfl⟩
  have b : Below w4.heap.size w4 w5 := e_w5 ▸ below_lit _ _
  have hs_w5 : w5.heap.size = ((((w.heap.size + 1) + 1) + 1) + 1) + 1 := e_w5 ▸ size_lit w4 _ hs_w4
  have xo : Bx w5 ((((w.heap.size + 1) + 1) + 1) + 1) [.string ⟨#[122]⟩, .slice (some ⟨(((w.heap.size + 1) + 1) + 1), 0, none⟩) 1 1] := e_w5 ▸ Bx.made_k w4 hs_w4 #[.string ⟨#[122]⟩, .slice (some ⟨(((w.heap.size + 1) + 1) + 1), 0, none⟩) 1 1] 41
  rw [e_w5]
  clear e_w5
  replace xn := xn.on b
  replace xa := xa.on b
  replace xi := xi.on b
  replace xb := xb.on b
  replace BW := Below.step BW b
  clear b
  obtain ⟨w6, e_w6⟩ : ∃ w', w5.alloc (.cells #[.slice (some ⟨w.heap.size, 0, none⟩) 4 4, .slice (some ⟨((w.heap.size + 1) + 1), 0, none⟩) 1 1, .slice (some ⟨((((w.heap.size + 1) + 1) + 1) + 1), 0, none⟩) 1 1] 25) = w' := ⟨_, rfl⟩
  have b : Below w5.heap.size w5 w6 := e_w6 ▸ below_lit _ _
  have hs_w6 : w6.heap.size = (((((w.heap.size + 1) + 1) + 1) + 1) + 1) + 1 := e_w6 ▸ size_lit w5 _ hs_w5
  have zn : Bx w6 (((((w.heap.size + 1) + 1) + 1) + 1) + 1) [.slice (some ⟨w.heap.size, 0, none⟩) 4 4, .slice (some ⟨((w.heap.size + 1) + 1), 0, none⟩) 1 1, .slice (some ⟨((((w.heap.size + 1) + 1) + 1) + 1), 0, none⟩) 1 1] := e_w6 ▸ Bx.made_k w5 hs_w5 #[.slice (some ⟨w.heap.size, 0, none⟩) 4 4, .slice (some ⟨((w.heap.size + 1) + 1), 0, none⟩) 1 1, .slice (some ⟨((((w.heap.size + 1) + 1) + 1) + 1), 0, none⟩) 1 1] 25
  rw [e_w6]
  clear e_w6
  replace xn := xn.on b
  replace xa := xa.on b
  replace xi := xi.on b
  replace xb := xb.on b
  replace xo := xo.on b
  replace BW := Below.step BW b
  clear b
  have h : Nt w6 (some ⟨w.heap.size, 0, none⟩) 4 4 (some ⟨((w.heap.size + 1) + 1), 0, none⟩) 1 1 (some ⟨((((w.heap.size + 1) + 1) + 1) + 1), 0, none⟩) 1 1 t12.N t12.I t12.O := ⟨Bx.ns (L := t12.N) xn, xi.ps1 (Bx.is (L := [1]) xa) ⟨by omega, fun e => by cases e⟩ (by unfold maxLen; omega), xo.ps1 (Bx.is (L := [3]) xb) ⟨by omega, fun e => by cases e⟩ (by unfold maxLen; omega), Sw.one _ _ (by omega), Sw.one _ _ (by omega), by omega, by omega, fun p hp => by simp [t12] at hp; rcases hp with rfl | rfl <;> simp⟩
  clear xn xa xi xb xo
  clear hs_w1 hs_w2 hs_w3 hs_w4 hs_w5 hs_w6
  obtain ⟨a5, ha5⟩ : ∃ a, (((((w.heap.size + 1) + 1) + 1) + 1) + 1) = a := ⟨_, rfl⟩
  rw [ha5] at zn ⊢
  clear ha5
  obtain ⟨a4, ha4⟩ : ∃ a, ((((w.heap.size + 1) + 1) + 1) + 1) = a := ⟨_, rfl⟩
  rw [ha4] at h zn ⊢
  clear ha4
  obtain ⟨a3, ha3⟩ : ∃ a, (((w.heap.size + 1) + 1) + 1) = a := ⟨_, rfl⟩
  rw [ha3] at ⊢
  clear ha3
  obtain ⟨a2, ha2⟩ : ∃ a, ((w.heap.size + 1) + 1) = a := ⟨_, rfl⟩
  rw [ha2] at h zn ⊢
  clear ha2
  obtain ⟨a1, ha1⟩ : ∃ a, (w.heap.size + 1) = a := ⟨_, rfl⟩
  rw [ha1] at ⊢
  clear ha1
  have znc0 := zn.2 0 _ rfl
  have znc1 := zn.2 1 _ rfl
  have znc2 := zn.2 2 _ rfl
  go_wp2_with fail
  refine (opt_yes (t := t12) (f := true) (s := true) (x := true) h (Sw.one _ _ (by omega)) (by omega) (by omega) (fun p hp => by simp [t12] at hp; rcases hp with rfl | rfl <;> simp) ⟨_, _, lx_t12⟩ (by omega) (by omega) ⟨rfl, rfl, rfl⟩).mono ?_
  rintro en w7 ⟨⟨kr, Bk, k, ck, Bi, di, Bo, do', rfl, hend, hf, _, _⟩, b⟩
  clear znc0 znc1 znc2
  replace zn := zn.on b
  replace h := h.on b
  replace BW := Below.step BW b
  clear b
  obtain rfl : kr = 2 := hend.eq end_t12
  rw [it2_t12] at hf ⊢
  dsimp only
  rw [show ((2 : Nat) : Int) = 2 from rfl, show ((0 : Nat) : Int) = 0 from rfl, show ((3 : Nat) : Int) = 3 from rfl]
  obtain rfl : 1 = k := hf.n.1
  clear hend
  go_upto_region 3 with fail
  obtain ⟨w8, e_w8⟩ : ∃ w', w7.alloc (.cells #[.slice Bk 1 ck, .slice Bi 1 di, .slice Bo 1 do'] 25) = w' := ⟨_, rfl⟩
  have b : Below w7.heap.size w7 w8 := e_w8 ▸ below_lit _ _
  have hs_w8 : w8.heap.size = w7.heap.size + 1 := e_w8 ▸ size_lit w7 _ rfl
  have zf : Bx w8 w7.heap.size [.slice Bk 1 ck, .slice Bi 1 di, .slice Bo 1 do'] := e_w8 ▸ Bx.made_k w7 rfl #[.slice Bk 1 ck, .slice Bi 1 di, .slice Bo 1 do'] 25
  rw [e_w8]
  clear e_w8
  replace zn := zn.on b
  replace h := h.on b
  replace hf := hf.on b
  replace BW := Below.step BW b
  clear b
  obtain ⟨w9, e_w9⟩ : ∃ w', w8.alloc (.cells #[.int .i64 2, .int .i64 2, .int .i64 0, .int .i64 3] 57) = w' := ⟨_, rfl⟩
  have b : Below w8.heap.size w8 w9 := e_w9 ▸ below_lit _ _
  have hs_w9 : w9.heap.size = (w7.heap.size + 1) + 1 := e_w9 ▸ size_lit w8 _ hs_w8
  have zr : Bx w9 (w7.heap.size + 1) [.int .i64 2, .int .i64 2, .int .i64 0, .int .i64 3] := e_w9 ▸ Bx.made_k w8 hs_w8 #[.int .i64 2, .int .i64 2, .int .i64 0, .int .i64 3] 57
  rw [e_w9]
  clear e_w9
  replace zn := zn.on b
  replace h := h.on b
  replace hf := hf.on b
  replace zf := zf.on b
  replace BW := Below.step BW b
  clear b
  clear hs_w8 hs_w9
  have znc0 := zn.2 0 _ rfl
  have znc1 := zn.2 1 _ rfl
  have znc2 := zn.2 2 _ rfl
  go_wp2_with fail
  refine (opt_arg (sw := 8) (.inr (by omega))).mono ?_
  rintro en w10 ⟨rfl, b⟩
  clear znc0 znc1 znc2
  replace zn := zn.on b
  replace h := h.on b
  replace hf := hf.on b
  replace zf := zf.on b
  replace zr := zr.on b
  replace BW := Below.step BW b
  clear b
  go_upto_region 4 with fail
  obtain ⟨w11, e_w11⟩ : ∃ w', w10.alloc (.cells #[.slice none 0 0, .slice none 0 0, .slice none 0 0] 25) = w' := ⟨_, rfl⟩
  have b : Below w10.heap.size w10 w11 := e_w11 ▸ below_lit _ _
  have hs_w11 : w11.heap.size = w10.heap.size + 1 := e_w11 ▸ size_lit w10 _ rfl
  have zx : Bx w11 w10.heap.size [.slice none 0 0, .slice none 0 0, .slice none 0 0] := e_w11 ▸ Bx.made_k w10 rfl #[.slice none 0 0, .slice none 0 0, .slice none 0 0] 25
  rw [e_w11]
  clear e_w11
  replace zn := zn.on b
  replace h := h.on b
  replace hf := hf.on b
  replace zf := zf.on b
  replace zr := zr.on b
  replace BW := Below.step BW b
  clear b
  obtain ⟨w12, e_w12⟩ : ∃ w', w11.alloc (.cells #[.int .i64 0, .int .i64 0, .int .i64 0, .int .i64 0] 57) = w' := ⟨_, rfl⟩
  have b : Below w11.heap.size w11 w12 := e_w12 ▸ below_lit _ _
  have hs_w12 : w12.heap.size = (w10.heap.size + 1) + 1 := e_w12 ▸ size_lit w11 _ hs_w11
  have zy : Bx w12 (w10.heap.size + 1) [.int .i64 0, .int .i64 0, .int .i64 0, .int .i64 0] := e_w12 ▸ Bx.made_k w11 hs_w11 #[.int .i64 0, .int .i64 0, .int .i64 0, .int .i64 0] 57
  rw [e_w12]
  clear e_w12
  replace zn := zn.on b
  replace h := h.on b
  replace hf := hf.on b
  replace zf := zf.on b
  replace zr := zr.on b
  replace zx := zx.on b
  replace BW := Below.step BW b
  clear b
  clear hs_w11 hs_w12
  clear zx zy
  have znc0 := zn.2 0 _ rfl
  have znc1 := zn.2 1 _ rfl
  have znc2 := zn.2 2 _ rfl
  go_wp2_with fail
  refine (opt_yes (t := t12) (f := false) (s := false) (x := false) h (Sw.one _ _ (by omega)) (by omega) (by omega) (fun p hp => by simp [t12] at hp; rcases hp with rfl | rfl <;> simp) ⟨_, _, lx_t12⟩ (by omega) (by omega) ⟨rfl, rfl, rfl⟩).mono ?_
  rintro en w13 ⟨⟨kr, Ck, k, ck2, Ci, di2, Co, do2, rfl, hend, hg, _, _⟩, b⟩
  clear znc0 znc1 znc2
  replace zn := zn.on b
  replace h := h.on b
  replace hf := hf.on b
  replace zf := zf.on b
  replace zr := zr.on b
  replace BW := Below.step BW b
  clear b
  obtain rfl : kr = 1 := hend.eq (end_none t12).1
  rw [(end_none t12).2] at hg ⊢
  dsimp only
  rw [show ((1 : Nat) : Int) = 1 from rfl, show ((0 : Nat) : Int) = 0 from rfl]
  obtain rfl : 4 = k := hg.n.1
  clear hend
  go_upto_region 5 with fail
  obtain ⟨w14, e_w14⟩ : ∃ w', w13.alloc (.cells #[.slice Ck 4 ck2, .slice Ci 1 di2, .slice Co 1 do2] 25) = w' := ⟨_, rfl⟩
  have b : Below w13.heap.size w13 w14 := e_w14 ▸ below_lit _ _
  have hs_w14 : w14.heap.size = w13.heap.size + 1 := e_w14 ▸ size_lit w13 _ rfl
  have zg : Bx w14 w13.heap.size [.slice Ck 4 ck2, .slice Ci 1 di2, .slice Co 1 do2] := e_w14 ▸ Bx.made_k w13 rfl #[.slice Ck 4 ck2, .slice Ci 1 di2, .slice Co 1 do2] 25
  rw [e_w14]
  clear e_w14
  replace zn := zn.on b
  replace h := h.on b
  replace hf := hf.on b
  replace zf := zf.on b
  replace zr := zr.on b
  replace hg := hg.on b
  replace BW := Below.step BW b
  clear b
  obtain ⟨w15, e_w15⟩ : ∃ w', w14.alloc (.cells #[.int .i64 1, .int .i64 0, .int .i64 0, .int .i64 0] 57) = w' := ⟨_, rfl⟩
  have b : Below w14.heap.size w14 w15 := e_w15 ▸ below_lit _ _
  have hs_w15 : w15.heap.size = (w13.heap.size + 1) + 1 := e_w15 ▸ size_lit w14 _ hs_w14
  have zs : Bx w15 (w13.heap.size + 1) [.int .i64 1, .int .i64 0, .int .i64 0, .int .i64 0] := e_w15 ▸ Bx.made_k w14 hs_w14 #[.int .i64 1, .int .i64 0, .int .i64 0, .int .i64 0] 57
  rw [e_w15]
  clear e_w15
  replace zn := zn.on b
  replace h := h.on b
  replace hf := hf.on b
  replace zf := zf.on b
  replace zr := zr.on b
  replace hg := hg.on b
  replace zg := zg.on b
  replace BW := Below.step BW b
  clear b
  clear hs_w14 hs_w15
  have zfc0 := zf.2 0 _ rfl
  have zfc1 := zf.2 1 _ rfl
  have zfc2 := zf.2 2 _ rfl
  go_wp2_with fail
  clear zfc0 zfc1 zfc2
  obtain ⟨w16, e_w16⟩ : ∃ w', w15.alloc (.cells #[.int .i64 1, .int .i64 0, .int .i64 0, .int .i64 0] 43) = w' := ⟨_, rfl⟩
  have b : Below w15.heap.size w15 w16 := e_w16 ▸ below_lit _ _
  have hs_w16 : w16.heap.size = w15.heap.size + 1 := e_w16 ▸ size_lit w15 _ rfl
  have xn : Bx w16 w15.heap.size [.int .i64 1, .int .i64 0, .int .i64 0, .int .i64 0] := e_w16 ▸ Bx.made_k w15 rfl #[.int .i64 1, .int .i64 0, .int .i64 0, .int .i64 0] 43
  rw [e_w16]
  clear e_w16
  replace zn := zn.on b
  replace h := h.on b
  replace hf := hf.on b
  replace zf := zf.on b
  replace zr := zr.on b
  replace hg := hg.on b
  replace zg := zg.on b
  replace zs := zs.on b
  replace BW := Below.step BW b
  clear b
  obtain ⟨w17, e_w17⟩ : ∃ w', w16.alloc (.cells #[.int .i64 0] 3) = w' := ⟨_, rfl⟩
  have b : Below w16.heap.size w16 w17 := e_w17 ▸ below_lit _ _
  have hs_w17 : w17.heap.size = (w15.heap.size + 1) + 1 := e_w17 ▸ size_lit w16 _ hs_w16
  have xa : Bx w17 (w15.heap.size + 1) [.int .i64 0] := e_w17 ▸ Bx.made_k w16 hs_w16 #[.int .i64 0] 3
  rw [e_w17]
  clear e_w17
  replace zn := zn.on b
  replace h := h.on b
  replace hf := hf.on b
  replace zf := zf.on b
  replace zr := zr.on b
  replace hg := hg.on b
  replace zg := zg.on b
  replace zs := zs.on b
  replace xn := xn.on b
  replace BW := Below.step BW b
  clear b
  obtain ⟨w18, e_w18⟩ : ∃ w', w17.alloc (.cells #[.string ⟨#[97]⟩, .slice (some ⟨(w15.heap.size + 1), 0, none⟩) 1 1] 41) = w' := ⟨_, rfl⟩
  have b : Below w17.heap.size w17 w18 := e_w18 ▸ below_lit _ _
  have hs_w18 : w18.heap.size = ((w15.heap.size + 1) + 1) + 1 := e_w18 ▸ size_lit w17 _ hs_w17
  have xi : Bx w18 ((w15.heap.size + 1) + 1) [.string ⟨#[97]⟩, .slice (some ⟨(w15.heap.size + 1), 0, none⟩) 1 1] := e_w18 ▸ Bx.made_k w17 hs_w17 #[.string ⟨#[97]⟩, .slice (some ⟨(w15.heap.size + 1), 0, none⟩) 1 1] 41
  rw [e_w18]
  clear e_w18
  replace zn := zn.on b
  replace h := h.on b
  replace hf := hf.on b
  replace zf := zf.on b
  replace zr := zr.on b
  replace hg := hg.on b
  replace zg := zg.on b
  replace zs := zs.on b
  replace xn := xn.on b
  replace xa := xa.on b
  replace BW := Below.step BW b
  clear b
  obtain ⟨w19, e_w19⟩ : ∃ w', w18.alloc (.cells #[.int .i64 0] 3) = w' := ⟨_, rfl⟩
  have b : Below w18.heap.size w18 w19 := e_w19 ▸ below_lit _ _
  have hs_w19 : w19.heap.size = (((w15.heap.size + 1) + 1) + 1) + 1 := e_w19 ▸ size_lit w18 _ hs_w18
  have xb : Bx w19 (((w15.heap.size + 1) + 1) + 1) [.int .i64 0] := e_w19 ▸ Bx.made_k w18 hs_w18 #[.int .i64 0] 3
  rw [e_w19]
  clear e_w19
  replace zn := zn.on b
  replace h := h.on b
  replace hf := hf.on b
  replace zf := zf.on b
  replace zr := zr.on b
  replace hg := hg.on b
  replace zg := zg.on b
  replace zs := zs.on b
  replace xn := xn.on b
  replace xa := xa.on b
  replace xi := xi.on b
  replace BW := Below.step BW b
  clear b
  obtain ⟨w20, e_w20⟩ : ∃ w', w19.alloc (.cells #[.string ⟨#[122]⟩, .slice (some ⟨(((w15.heap.size + 1) + 1) + 1), 0, none⟩) 1 1] 41) = w' := ⟨_, rfl⟩
  have b : Below w19.heap.size w19 w20 := e_w20 ▸ below_lit _ _
  have hs_w20 : w20.heap.size = ((((w15.heap.size + 1) + 1) + 1) + 1) + 1 := e_w20 ▸ size_lit w19 _ hs_w19
  have xo : Bx w20 ((((w15.heap.size + 1) + 1) + 1) + 1) [.string ⟨#[122]⟩, .slice (some ⟨(((w15.heap.size + 1) + 1) + 1), 0, none⟩) 1 1] := e_w20 ▸ Bx.made_k w19 hs_w19 #[.string ⟨#[122]⟩, .slice (some ⟨(((w15.heap.size + 1) + 1) + 1), 0, none⟩) 1 1] 41
  rw [e_w20]
  clear e_w20
  replace zn := zn.on b
  replace h := h.on b
  replace hf := hf.on b
  replace zf := zf.on b
  replace zr := zr.on b
  replace hg := hg.on b
  replace zg := zg.on b
  replace zs := zs.on b
  replace xn := xn.on b
  replace xa := xa.on b
  replace xi := xi.on b
  replace xb := xb.on b
  replace BW := Below.step BW b
  clear b
  have h2 : Nt w20 (some ⟨w15.heap.size, 0, none⟩) 1 1 (some ⟨((w15.heap.size + 1) + 1), 0, none⟩) 1 1 (some ⟨((((w15.heap.size + 1) + 1) + 1) + 1), 0, none⟩) 1 1 v12.N v12.I v12.O := ⟨Bx.ns (L := v12.N) xn, xi.ps1 (Bx.is (L := [0]) xa) ⟨by omega, fun e => by cases e⟩ (by unfold maxLen; omega), xo.ps1 (Bx.is (L := [0]) xb) ⟨by omega, fun e => by cases e⟩ (by unfold maxLen; omega), Sw.one _ _ (by omega), Sw.one _ _ (by omega), by omega, by omega, fun p hp => by simp [v12] at hp; rcases hp with rfl | rfl <;> simp⟩
  clear xn xa xi xb xo
  clear hs_w20
  refine (rsame_as hf h2 true (sameS_me _ _ _)).mono ?_
  rintro en w21 ⟨rfl, b⟩
  replace zn := zn.on b
  replace h := h.on b
  replace hf := hf.on b
  replace zf := zf.on b
  replace zr := zr.on b
  replace hg := hg.on b
  replace zg := zg.on b
  replace zs := zs.on b
  replace BW := Below.step BW b
  clear b
  clear h2
  clear hf
  have zrc0 := zr.2 0 _ rfl
  have zrc1 := zr.2 1 _ rfl
  have zrc2 := zr.2 2 _ rfl
  have zrc3 := zr.2 3 _ rfl
  have zgc0 := zg.2 0 _ rfl
  have zgc1 := zg.2 1 _ rfl
  have zgc2 := zg.2 2 _ rfl
  have znc0 := zn.2 0 _ rfl
  have znc1 := zn.2 1 _ rfl
  have znc2 := zn.2 2 _ rfl
  go_wp2_with fail
  refine (rsame_as hg h true (sameS_me _ _ _)).mono ?_
  rintro en w22 ⟨rfl, b⟩
  clear zrc0 zrc1 zrc2 zrc3 zgc0 zgc1 zgc2 znc0 znc1 znc2
  replace zn := zn.on b
  replace h := h.on b
  replace zf := zf.on b
  replace zr := zr.on b
  replace hg := hg.on b
  replace zg := zg.on b
  replace zs := zs.on b
  replace BW := Below.step BW b
  clear b
  have zsc0 := zs.2 0 _ rfl
  have zsc1 := zs.2 1 _ rfl
  have zsc2 := zs.2 2 _ rfl
  have zsc3 := zs.2 3 _ rfl
  go_wp2_with fail
  go_ret
  exact ⟨rfl, BW⟩
end Go.Proofs.Ytcehklnonhalhaa
namespace Go.Proofs.Ytcehklnonhalhaa
open Go.RowKit
set_option linter.unusedVariables false

theorem NetIn.ntM {w : World} {An Ai Ao : Option Addr} {nn cn ni ci no co M : Nat} {N : List Nd} {I O : List Pt} (h : NetIn w An nn cn Ai ni ci Ao no co N I O) (hv : largeS nn ni no I O M = false) (hM : M ≤ 60) :
    Nt w An nn cn Ai ni ci Ao no co N I O ∧ nn ≤ 60 ∧ ni ≤ 66 ∧ no ≤ 66 ∧ ∀ p ∈ I ++ O, p.bits.length ≤ 4000 ∧ p.name.size ≤ 4000 := by
  have hl := large_no hv h.i.1 h.o.1
  exact ⟨⟨h.n, h.i, h.o, h.si, h.so, by omega, by omega, fun p hp => by have := (hl.2.2.2 p hp).1; omega⟩, by omega, hl.2⟩
set_option maxRecDepth 20000 in
set_option maxHeartbeats 8000000 in
theorem optSweeps_as {An Ai Ao : Option Addr} {nn cn ni ci no co : Nat} {N : List Nd} {I O : List Pt} {w : World} (h : NetIn w An nn cn Ai ni ci Ao no co N I O) :
    Calls Try.prog 13 #[.agg #[.slice An nn cn, .slice Ai ni ci, .slice Ao no co]] w fun en w' => en = .returned (.bool true) ∧ Below w.heap.size w w' := by
  go_enter Try.func13, Try.ntmps13
  go_upto_region 1 with fail
  obtain ⟨w1, e_w1⟩ : ∃ w', w.alloc (.cells #[.slice An nn cn, .slice Ai ni ci, .slice Ao no co] 25) = w' := ⟨_, rfl⟩
  have z0 : Bx w1 w.heap.size [.slice An nn cn, .slice Ai ni ci, .slice Ao no co] := e_w1 ▸ Bx.made_k w rfl #[.slice An nn cn, .slice Ai ni ci, .slice Ao no co] 25
  have BW : Below w.heap.size w w1 := e_w1 ▸ below_lit _ _
  rw [e_w1]
  clear e_w1
  replace h := h.on BW
  go_wp2_with fail
  refine (awake12_any _).mono ?_
  rintro en w2 ⟨rfl, b⟩
  replace h := h.on b
  replace z0 := z0.on b
  replace BW := Below.step BW b
  clear b
  obtain ⟨v, hv⟩ : ∃ v, largeS nn ni no I O 60 = v := ⟨_, rfl⟩
  have HV := Lib.hid hv
  clear hv
  have c0 := z0.2 0 _ rfl; have c1 := z0.2 1 _ rfl; have c2 := z0.2 2 _ rfl
  go_wp2_with fail
  refine (rlarge_as h.i h.o h.hn h.hi h.ho h.bi h.bo 60 (by omega) v HV.out).mono ?_
  rintro en w3 ⟨rfl, b⟩
  clear c0 c1 c2
  replace h := h.on b
  replace z0 := z0.on b
  replace BW := Below.step BW b
  clear b
  cases v
  case true =>
    go_wp2_with fail
    go_ret
    exact ⟨rfl, BW⟩
  obtain ⟨hn, hn60, hi66, ho66, hbb⟩ := h.ntM HV.out (by omega)
  have HB4 : Hid (∀ p ∈ I ++ O, p.bits.length ≤ 4000) := Lib.hid fun p hp => (hbb p hp).1
  have sn := h.sn
  clear h hbb HV
  obtain ⟨d, e, hl⟩ : ∃ d e, levelS N I O = (d, e) := ⟨_, _, rfl⟩
  by_cases he : e = 0
  case neg =>
    have d0 : (e != 0) = true := by simpa using he
    have HL := Lib.hid hl
    clear hl
    have e2 : (e == e) = true := by simp
    clear he
    have z0c0 := z0.2 0 _ rfl
    have z0c1 := z0.2 1 _ rfl
    have z0c2 := z0.2 2 _ rfl
    go_wp2_with fail
    refine (opt_no (sw := 4) hn (by omega) (by omega) HL.out d0).mono ?_
    rintro en w4 ⟨rfl, b⟩
    clear z0c0 z0c1 z0c2
    replace hn := hn.on b
    replace z0 := z0.on b
    replace BW := Below.step BW b
    clear b
    go_upto_region 6 with fail
    obtain ⟨w5, e_n⟩ : ∃ w', w4.alloc (.cells #[.slice none 0 0, .slice none 0 0, .slice none 0 0] 25) = w' := ⟨_, rfl⟩
    have b : Below w4.heap.size w4 w5 := e_n ▸ below_lit _ _
    have zf : Bx w5 w4.heap.size [.slice none 0 0, .slice none 0 0, .slice none 0 0] := e_n ▸ Bx.made_k w4 rfl #[.slice none 0 0, .slice none 0 0, .slice none 0 0] 25
    have hsz : w5.heap.size = w4.heap.size + 1 := e_n ▸ size_lit w4 _ rfl
    rw [e_n]
    clear e_n
    replace hn := hn.on b
    replace z0 := z0.on b
    replace BW := Below.step BW b
    clear b
    obtain ⟨w6, e_n⟩ : ∃ w', w5.alloc (.cells #[.int .i64 0, .int .i64 0, .int .i64 0, .int .i64 0] 57) = w' := ⟨_, rfl⟩
    have b : Below w5.heap.size w5 w6 := e_n ▸ below_lit _ _
    have zr : Bx w6 (w4.heap.size + 1) [.int .i64 0, .int .i64 0, .int .i64 0, .int .i64 0] := e_n ▸ Bx.made_k w5 hsz #[.int .i64 0, .int .i64 0, .int .i64 0, .int .i64 0] 57
    rw [e_n]
    clear e_n
    replace hn := hn.on b
    replace z0 := z0.on b
    replace zf := zf.on b
    replace BW := Below.step BW b
    clear b
    clear hsz
    obtain ⟨azr, ha⟩ : ∃ a, w4.heap.size + 1 = a := ⟨_, rfl⟩
    rw [ha] at zr ⊢
    clear ha
    obtain ⟨azf, ha⟩ : ∃ a, w4.heap.size = a := ⟨_, rfl⟩
    rw [ha] at zf ⊢
    clear ha
    have z0c0 := z0.2 0 _ rfl
    have z0c1 := z0.2 1 _ rfl
    have z0c2 := z0.2 2 _ rfl
    go_wp2_with fail
    refine (ssweep_no hn HL.out d0).mono ?_
    rintro en w7 ⟨rfl, b⟩
    clear z0c0 z0c1 z0c2
    replace hn := hn.on b
    replace z0 := z0.on b
    replace zf := zf.on b
    replace zr := zr.on b
    replace BW := Below.step BW b
    clear b
    go_upto_region 7 with fail
    obtain ⟨w8, e_n⟩ : ∃ w', w7.alloc (.cells #[.slice none 0 0, .slice none 0 0, .slice none 0 0] 25) = w' := ⟨_, rfl⟩
    have b : Below w7.heap.size w7 w8 := e_n ▸ below_lit _ _
    have zs : Bx w8 w7.heap.size [.slice none 0 0, .slice none 0 0, .slice none 0 0] := e_n ▸ Bx.made_k w7 rfl #[.slice none 0 0, .slice none 0 0, .slice none 0 0] 25
    have hsz : w8.heap.size = w7.heap.size + 1 := e_n ▸ size_lit w7 _ rfl
    rw [e_n]
    clear e_n
    replace hn := hn.on b
    replace z0 := z0.on b
    replace zf := zf.on b
    replace zr := zr.on b
    replace BW := Below.step BW b
    clear b
    clear hsz
    obtain ⟨azs, ha⟩ : ∃ a, w7.heap.size = a := ⟨_, rfl⟩
    rw [ha] at zs ⊢
    clear ha
    have z0c0 := z0.2 0 _ rfl
    have z0c1 := z0.2 1 _ rfl
    have z0c2 := z0.2 2 _ rfl
    go_wp2_with fail
    refine (opt_no (sw := 0) hn (by omega) (by omega) HL.out d0).mono ?_
    rintro en w9 ⟨rfl, b⟩
    clear z0c0 z0c1 z0c2
    replace hn := hn.on b
    replace z0 := z0.on b
    replace zf := zf.on b
    replace zr := zr.on b
    replace zs := zs.on b
    replace BW := Below.step BW b
    clear b
    go_upto_region 8 with fail
    obtain ⟨w10, e_n⟩ : ∃ w', w9.alloc (.cells #[.slice none 0 0, .slice none 0 0, .slice none 0 0] 25) = w' := ⟨_, rfl⟩
    have b : Below w9.heap.size w9 w10 := e_n ▸ below_lit _ _
    have zg : Bx w10 w9.heap.size [.slice none 0 0, .slice none 0 0, .slice none 0 0] := e_n ▸ Bx.made_k w9 rfl #[.slice none 0 0, .slice none 0 0, .slice none 0 0] 25
    have hsz : w10.heap.size = w9.heap.size + 1 := e_n ▸ size_lit w9 _ rfl
    rw [e_n]
    clear e_n
    replace hn := hn.on b
    replace z0 := z0.on b
    replace zf := zf.on b
    replace zr := zr.on b
    replace zs := zs.on b
    replace BW := Below.step BW b
    clear b
    obtain ⟨w11, e_n⟩ : ∃ w', w10.alloc (.cells #[.int .i64 0, .int .i64 0, .int .i64 0, .int .i64 0] 57) = w' := ⟨_, rfl⟩
    have b : Below w10.heap.size w10 w11 := e_n ▸ below_lit _ _
    have zq : Bx w11 (w9.heap.size + 1) [.int .i64 0, .int .i64 0, .int .i64 0, .int .i64 0] := e_n ▸ Bx.made_k w10 hsz #[.int .i64 0, .int .i64 0, .int .i64 0, .int .i64 0] 57
    rw [e_n]
    clear e_n
    replace hn := hn.on b
    replace z0 := z0.on b
    replace zf := zf.on b
    replace zr := zr.on b
    replace zs := zs.on b
    replace zg := zg.on b
    replace BW := Below.step BW b
    clear b
    clear hsz
    obtain ⟨azq, ha⟩ : ∃ a, w9.heap.size + 1 = a := ⟨_, rfl⟩
    rw [ha] at zq ⊢
    clear ha
    obtain ⟨azg, ha⟩ : ∃ a, w9.heap.size = a := ⟨_, rfl⟩
    rw [ha] at zg ⊢
    clear ha
    have hf : Nt w11 none 0 0 none 0 0 none 0 0 [] [] [] := ⟨⟨rfl, fun k x hx => by cases hx⟩, Ps.nil_, Ps.nil_, Sw.nil_, Sw.nil_, by omega, by omega, fun p hp => by cases hp⟩
    have zfc0 := zf.2 0 _ rfl
    have zfc1 := zf.2 1 _ rfl
    have zfc2 := zf.2 2 _ rfl
    have zsc0 := zs.2 0 _ rfl
    have zsc1 := zs.2 1 _ rfl
    have zsc2 := zs.2 2 _ rfl
    go_wp2_with fail
    refine (rsame_as hf hf true (sameS_me _ _ _)).mono ?_
    rintro en w12 ⟨rfl, b⟩
    clear zfc0 zfc1 zfc2 zsc0 zsc1 zsc2
    replace hn := hn.on b
    replace z0 := z0.on b
    replace zf := zf.on b
    replace zr := zr.on b
    replace zs := zs.on b
    replace zg := zg.on b
    replace zq := zq.on b
    replace hf := hf.on b
    replace BW := Below.step BW b
    clear b
    have zrc0 := zr.2 0 _ rfl
    have zrc1 := zr.2 1 _ rfl
    have zrc2 := zr.2 2 _ rfl
    have zrc3 := zr.2 3 _ rfl
    go_wp2_with fail
    go_ret
    exact ⟨rfl, BW⟩
  subst he
  obtain ⟨dd, rfl⟩ := some_of9 hl
  obtain ⟨L, lx⟩ := lv_x hl
  have HOK : Hid (OkT ⟨N, I, O⟩) := Lib.hid ⟨dd, L, lx⟩
  have HLN := Lib.hid hn.n.1
  clear hl lx
  have z0c0 := z0.2 0 _ rfl
  have z0c1 := z0.2 1 _ rfl
  have z0c2 := z0.2 2 _ rfl
  go_wp2_with fail
  refine (opt_yes (t := ⟨N, I, O⟩) (f := false) (s := false) (x := true) (sw := 4) hn sn hi66 ho66 HB4.out HOK.out (by omega) (by omega) ⟨rfl, rfl, rfl⟩).mono ?_
  rintro en w4 ⟨⟨k, Bn, kk, dn, Bi, di, Bo, do', rfl, hend, hf, _, _⟩, b⟩
  clear z0c0 z0c1 z0c2
  replace hn := hn.on b
  replace z0 := z0.on b
  replace BW := Below.step BW b
  clear b
  have hes := end_sweep HOK.out hend
  rw [hes.1] at hf
  rw [hes.2]
  clear hes hend
  dsimp only
  rw [show ((0 : Nat) : Int) = 0 from rfl]
  obtain ⟨sc, hsc⟩ : ∃ sc, (((sweepT ⟨N, I, O⟩).2 : Nat) : Int) = sc := ⟨_, rfl⟩
  have HSC := Lib.hid hsc
  rw [hsc]
  clear hsc
  obtain ⟨kq, hkq⟩ : ∃ q, (k : Int) = q := ⟨_, rfl⟩
  rw [hkq]
  clear hkq
  go_upto_region 6 with fail
  obtain ⟨w5, e_n⟩ : ∃ w', w4.alloc (.cells #[.slice Bn kk dn, .slice Bi ni di, .slice Bo no do'] 25) = w' := ⟨_, rfl⟩
  have b : Below w4.heap.size w4 w5 := e_n ▸ below_lit _ _
  have zf : Bx w5 w4.heap.size [.slice Bn kk dn, .slice Bi ni di, .slice Bo no do'] := e_n ▸ Bx.made_k w4 rfl #[.slice Bn kk dn, .slice Bi ni di, .slice Bo no do'] 25
  have hsz : w5.heap.size = w4.heap.size + 1 := e_n ▸ size_lit w4 _ rfl
  rw [e_n]
  clear e_n
  replace hn := hn.on b
  replace z0 := z0.on b
  replace hf := hf.on b
  replace BW := Below.step BW b
  clear b
  obtain ⟨w6, e_n⟩ : ∃ w', w5.alloc (.cells #[.int .i64 kq, .int .i64 0, .int .i64 0, .int .i64 sc] 57) = w' := ⟨_, rfl⟩
  have b : Below w5.heap.size w5 w6 := e_n ▸ below_lit _ _
  have zr : Bx w6 (w4.heap.size + 1) [.int .i64 kq, .int .i64 0, .int .i64 0, .int .i64 sc] := e_n ▸ Bx.made_k w5 hsz #[.int .i64 kq, .int .i64 0, .int .i64 0, .int .i64 sc] 57
  rw [e_n]
  clear e_n
  replace hn := hn.on b
  replace z0 := z0.on b
  replace hf := hf.on b
  replace zf := zf.on b
  replace BW := Below.step BW b
  clear b
  clear hsz
  obtain ⟨azr, ha⟩ : ∃ a, w4.heap.size + 1 = a := ⟨_, rfl⟩
  rw [ha] at zr ⊢
  clear ha
  obtain ⟨azf, ha⟩ : ∃ a, w4.heap.size = a := ⟨_, rfl⟩
  rw [ha] at zf ⊢
  clear ha
  have z0c0 := z0.2 0 _ rfl
  have z0c1 := z0.2 1 _ rfl
  have z0c2 := z0.2 2 _ rfl
  go_wp2_with fail
  refine (sweepX (t := ⟨N, I, O⟩) hn sn hi66 ho66 HB4.out HOK.out).mono ?_
  rintro en w7 ⟨⟨Cn, k2, cn2, Ci, di2, Co, do2, rfl, hs, _, _⟩, b⟩
  clear z0c0 z0c1 z0c2
  replace hn := hn.on b
  replace z0 := z0.on b
  replace hf := hf.on b
  replace zf := zf.on b
  replace zr := zr.on b
  replace BW := Below.step BW b
  clear b
  replace hs := hs.nt
  rw [HSC.out]
  go_upto_region 7 with fail
  obtain ⟨w8, e_n⟩ : ∃ w', w7.alloc (.cells #[.slice Cn k2 cn2, .slice Ci ni di2, .slice Co no do2] 25) = w' := ⟨_, rfl⟩
  have b : Below w7.heap.size w7 w8 := e_n ▸ below_lit _ _
  have zs : Bx w8 w7.heap.size [.slice Cn k2 cn2, .slice Ci ni di2, .slice Co no do2] := e_n ▸ Bx.made_k w7 rfl #[.slice Cn k2 cn2, .slice Ci ni di2, .slice Co no do2] 25
  have hsz : w8.heap.size = w7.heap.size + 1 := e_n ▸ size_lit w7 _ rfl
  rw [e_n]
  clear e_n
  replace hn := hn.on b
  replace z0 := z0.on b
  replace hf := hf.on b
  replace zf := zf.on b
  replace zr := zr.on b
  replace hs := hs.on b
  replace BW := Below.step BW b
  clear b
  clear hsz
  obtain ⟨azs, ha⟩ : ∃ a, w7.heap.size = a := ⟨_, rfl⟩
  rw [ha] at zs ⊢
  clear ha
  have z0c0 := z0.2 0 _ rfl
  have z0c1 := z0.2 1 _ rfl
  have z0c2 := z0.2 2 _ rfl
  go_wp2_with fail
  refine (opt_yes (t := ⟨N, I, O⟩) (f := false) (s := false) (x := false) (sw := 0) hn sn hi66 ho66 HB4.out HOK.out (by omega) (by omega) ⟨rfl, rfl, rfl⟩).mono ?_
  rintro en w9 ⟨⟨k3, Dn, k4, d4, Di, d5, Do, d6, rfl, hend, hg, _, _⟩, b⟩
  clear z0c0 z0c1 z0c2
  replace hn := hn.on b
  replace z0 := z0.on b
  replace hf := hf.on b
  replace zf := zf.on b
  replace zr := zr.on b
  replace hs := hs.on b
  replace zs := zs.on b
  replace BW := Below.step BW b
  clear b
  obtain rfl : k3 = 1 := hend.eq (end_none _).1
  rw [(end_none _).2] at hg ⊢
  clear hend
  dsimp only
  rw [show ((1 : Nat) : Int) = 1 from rfl, show ((0 : Nat) : Int) = 0 from rfl]
  go_upto_region 8 with fail
  obtain ⟨w10, e_n⟩ : ∃ w', w9.alloc (.cells #[.slice Dn k4 d4, .slice Di ni d5, .slice Do no d6] 25) = w' := ⟨_, rfl⟩
  have b : Below w9.heap.size w9 w10 := e_n ▸ below_lit _ _
  have zg : Bx w10 w9.heap.size [.slice Dn k4 d4, .slice Di ni d5, .slice Do no d6] := e_n ▸ Bx.made_k w9 rfl #[.slice Dn k4 d4, .slice Di ni d5, .slice Do no d6] 25
  have hsz : w10.heap.size = w9.heap.size + 1 := e_n ▸ size_lit w9 _ rfl
  rw [e_n]
  clear e_n
  replace hn := hn.on b
  replace z0 := z0.on b
  replace hf := hf.on b
  replace zf := zf.on b
  replace zr := zr.on b
  replace hs := hs.on b
  replace zs := zs.on b
  replace hg := hg.on b
  replace BW := Below.step BW b
  clear b
  obtain ⟨w11, e_n⟩ : ∃ w', w10.alloc (.cells #[.int .i64 1, .int .i64 0, .int .i64 0, .int .i64 0] 57) = w' := ⟨_, rfl⟩
  have b : Below w10.heap.size w10 w11 := e_n ▸ below_lit _ _
  have zq : Bx w11 (w9.heap.size + 1) [.int .i64 1, .int .i64 0, .int .i64 0, .int .i64 0] := e_n ▸ Bx.made_k w10 hsz #[.int .i64 1, .int .i64 0, .int .i64 0, .int .i64 0] 57
  rw [e_n]
  clear e_n
  replace hn := hn.on b
  replace z0 := z0.on b
  replace hf := hf.on b
  replace zf := zf.on b
  replace zr := zr.on b
  replace hs := hs.on b
  replace zs := zs.on b
  replace hg := hg.on b
  replace zg := zg.on b
  replace BW := Below.step BW b
  clear b
  clear hsz
  obtain ⟨azq, ha⟩ : ∃ a, w9.heap.size + 1 = a := ⟨_, rfl⟩
  rw [ha] at zq ⊢
  clear ha
  obtain ⟨azg, ha⟩ : ∃ a, w9.heap.size = a := ⟨_, rfl⟩
  rw [ha] at zg ⊢
  clear ha
  have e2 : (sc == sc) = true := by simp
  have zfc0 := zf.2 0 _ rfl
  have zfc1 := zf.2 1 _ rfl
  have zfc2 := zf.2 2 _ rfl
  have zsc0 := zs.2 0 _ rfl
  have zsc1 := zs.2 1 _ rfl
  have zsc2 := zs.2 2 _ rfl
  go_wp2_with fail
  refine (rsame_as hf hs true (sameS_me _ _ _)).mono ?_
  rintro en w12 ⟨rfl, b⟩
  clear zfc0 zfc1 zfc2 zsc0 zsc1 zsc2
  replace hn := hn.on b
  replace z0 := z0.on b
  replace hf := hf.on b
  replace zf := zf.on b
  replace zr := zr.on b
  replace hs := hs.on b
  replace zs := zs.on b
  replace hg := hg.on b
  replace zg := zg.on b
  replace zq := zq.on b
  replace BW := Below.step BW b
  clear b
  have zrc0 := zr.2 0 _ rfl
  have zrc1 := zr.2 1 _ rfl
  have zrc2 := zr.2 2 _ rfl
  have zrc3 := zr.2 3 _ rfl
  have zgc0 := zg.2 0 _ rfl
  have zgc1 := zg.2 1 _ rfl
  have zgc2 := zg.2 2 _ rfl
  have z0c0 := z0.2 0 _ rfl
  have z0c1 := z0.2 1 _ rfl
  have z0c2 := z0.2 2 _ rfl
  go_wp2_with fail
  refine (rsame_as hg hn true (sameS_me _ _ _)).mono ?_
  rintro en w13 ⟨rfl, b⟩
  clear zrc0 zrc1 zrc2 zrc3 zgc0 zgc1 zgc2 z0c0 z0c1 z0c2
  replace hn := hn.on b
  replace z0 := z0.on b
  replace hf := hf.on b
  replace zf := zf.on b
  replace zr := zr.on b
  replace hs := hs.on b
  replace zs := zs.on b
  replace hg := hg.on b
  replace zg := zg.on b
  replace zq := zq.on b
  replace BW := Below.step BW b
  clear b
  go_wp2_with fail
  go_ret
  exact ⟨rfl, BW⟩
set_option maxRecDepth 20000 in
set_option maxHeartbeats 8000000 in
theorem optSettles_as {An Ai Ao : Option Addr} {nn cn ni ci no co : Nat} {N : List Nd} {I O : List Pt} {w : World} (h : NetIn w An nn cn Ai ni ci Ao no co N I O) (sw : Int) :
    Calls Try.prog 12 #[.agg #[.slice An nn cn, .slice Ai ni ci, .slice Ao no co], .int .i64 sw] w fun en w' => en = .returned (.bool true) ∧ Below w.heap.size w w' := by
  go_enter Try.func12, Try.ntmps12
  go_upto_region 1 with fail
  obtain ⟨w1, e_w1⟩ : ∃ w', w.alloc (.cells #[.slice An nn cn, .slice Ai ni ci, .slice Ao no co] 25) = w' := ⟨_, rfl⟩
  have z0 : Bx w1 w.heap.size [.slice An nn cn, .slice Ai ni ci, .slice Ao no co] := e_w1 ▸ Bx.made_k w rfl #[.slice An nn cn, .slice Ai ni ci, .slice Ao no co] 25
  have BW : Below w.heap.size w w1 := e_w1 ▸ below_lit _ _
  rw [e_w1]
  clear e_w1
  replace h := h.on BW
  go_wp2_with fail
  refine (awake12_any _).mono ?_
  rintro en w2 ⟨rfl, b⟩
  replace h := h.on b
  replace z0 := z0.on b
  replace BW := Below.step BW b
  clear b
  obtain ⟨v, hv⟩ : ∃ v, largeS nn ni no I O 40 = v := ⟨_, rfl⟩
  have HV := Lib.hid hv
  clear hv
  have c0 := z0.2 0 _ rfl; have c1 := z0.2 1 _ rfl; have c2 := z0.2 2 _ rfl
  go_wp2_with fail
  refine (rlarge_as h.i h.o h.hn h.hi h.ho h.bi h.bo 40 (by omega) v HV.out).mono ?_
  rintro en w3 ⟨rfl, b⟩
  clear c0 c1 c2
  replace h := h.on b
  replace z0 := z0.on b
  replace BW := Below.step BW b
  clear b
  cases v
  case true =>
    go_wp2_with fail
    go_ret
    exact ⟨rfl, BW⟩
  obtain ⟨hn, hn60, hi66, ho66, hbb⟩ := h.ntM HV.out (by omega)
  have HB4 : Hid (∀ p ∈ I ++ O, p.bits.length ≤ 4000) := Lib.hid fun p hp => (hbb p hp).1
  have sn := h.sn
  clear h hbb HV
  obtain ⟨d, e, hl⟩ : ∃ d e, levelS N I O = (d, e) := ⟨_, _, rfl⟩
  by_cases hsw : sw < 0 ∨ 7 < sw
  case pos =>
    have z0c0 := z0.2 0 _ rfl
    have z0c1 := z0.2 1 _ rfl
    have z0c2 := z0.2 2 _ rfl
    go_wp2_with fail
    refine (opt_arg hsw).mono ?_
    rintro en w4 ⟨rfl, b⟩
    clear z0c0 z0c1 z0c2
    replace hn := hn.on b
    replace z0 := z0.on b
    replace BW := Below.step BW b
    clear b
    go_upto_region 6 with fail
    obtain ⟨w5, e_n⟩ : ∃ w', w4.alloc (.cells #[.slice none 0 0, .slice none 0 0, .slice none 0 0] 25) = w' := ⟨_, rfl⟩
    have b : Below w4.heap.size w4 w5 := e_n ▸ below_lit _ _
    have zf : Bx w5 w4.heap.size [.slice none 0 0, .slice none 0 0, .slice none 0 0] := e_n ▸ Bx.made_k w4 rfl #[.slice none 0 0, .slice none 0 0, .slice none 0 0] 25
    have hsz : w5.heap.size = w4.heap.size + 1 := e_n ▸ size_lit w4 _ rfl
    rw [e_n]
    clear e_n
    replace hn := hn.on b
    replace z0 := z0.on b
    replace BW := Below.step BW b
    clear b
    obtain ⟨w6, e_n⟩ : ∃ w', w5.alloc (.cells #[.int .i64 0, .int .i64 0, .int .i64 0, .int .i64 0] 57) = w' := ⟨_, rfl⟩
    have b : Below w5.heap.size w5 w6 := e_n ▸ below_lit _ _
    have zr : Bx w6 (w4.heap.size + 1) [.int .i64 0, .int .i64 0, .int .i64 0, .int .i64 0] := e_n ▸ Bx.made_k w5 hsz #[.int .i64 0, .int .i64 0, .int .i64 0, .int .i64 0] 57
    rw [e_n]
    clear e_n
    replace hn := hn.on b
    replace z0 := z0.on b
    replace zf := zf.on b
    replace BW := Below.step BW b
    clear b
    clear hsz
    obtain ⟨azr, ha⟩ : ∃ a, w4.heap.size + 1 = a := ⟨_, rfl⟩
    rw [ha] at zr ⊢
    clear ha
    obtain ⟨azf, ha⟩ : ∃ a, w4.heap.size = a := ⟨_, rfl⟩
    rw [ha] at zf ⊢
    clear ha
    go_wp2_with fail
    go_ret
    exact ⟨rfl, BW⟩
  have hs0 : 0 ≤ sw := by omega
  have hs7 : sw ≤ 7 := by omega
  clear hsw
  by_cases he : e = 0
  case neg =>
    have d0 : (e != 0) = true := by simpa using he
    have HL := Lib.hid hl
    clear hl
    clear he
    have z0c0 := z0.2 0 _ rfl
    have z0c1 := z0.2 1 _ rfl
    have z0c2 := z0.2 2 _ rfl
    go_wp2_with fail
    refine (opt_no (sw := sw) hn hs0 hs7 HL.out d0).mono ?_
    rintro en w4 ⟨rfl, b⟩
    clear z0c0 z0c1 z0c2
    replace hn := hn.on b
    replace z0 := z0.on b
    replace BW := Below.step BW b
    clear b
    go_upto_region 6 with fail
    obtain ⟨w5, e_n⟩ : ∃ w', w4.alloc (.cells #[.slice none 0 0, .slice none 0 0, .slice none 0 0] 25) = w' := ⟨_, rfl⟩
    have b : Below w4.heap.size w4 w5 := e_n ▸ below_lit _ _
    have zf : Bx w5 w4.heap.size [.slice none 0 0, .slice none 0 0, .slice none 0 0] := e_n ▸ Bx.made_k w4 rfl #[.slice none 0 0, .slice none 0 0, .slice none 0 0] 25
    have hsz : w5.heap.size = w4.heap.size + 1 := e_n ▸ size_lit w4 _ rfl
    rw [e_n]
    clear e_n
    replace hn := hn.on b
    replace z0 := z0.on b
    replace BW := Below.step BW b
    clear b
    obtain ⟨w6, e_n⟩ : ∃ w', w5.alloc (.cells #[.int .i64 0, .int .i64 0, .int .i64 0, .int .i64 0] 57) = w' := ⟨_, rfl⟩
    have b : Below w5.heap.size w5 w6 := e_n ▸ below_lit _ _
    have zr : Bx w6 (w4.heap.size + 1) [.int .i64 0, .int .i64 0, .int .i64 0, .int .i64 0] := e_n ▸ Bx.made_k w5 hsz #[.int .i64 0, .int .i64 0, .int .i64 0, .int .i64 0] 57
    rw [e_n]
    clear e_n
    replace hn := hn.on b
    replace z0 := z0.on b
    replace zf := zf.on b
    replace BW := Below.step BW b
    clear b
    clear hsz
    obtain ⟨azr, ha⟩ : ∃ a, w4.heap.size + 1 = a := ⟨_, rfl⟩
    rw [ha] at zr ⊢
    clear ha
    obtain ⟨azf, ha⟩ : ∃ a, w4.heap.size = a := ⟨_, rfl⟩
    rw [ha] at zf ⊢
    clear ha
    go_wp2_with fail
    go_ret
    exact ⟨rfl, BW⟩
  subst he
  obtain ⟨dd, rfl⟩ := some_of9 hl
  obtain ⟨L, lx⟩ := lv_x hl
  have HOK : Hid (OkT ⟨N, I, O⟩) := Lib.hid ⟨dd, L, lx⟩
  have HLN := Lib.hid hn.n.1
  clear hl lx
  obtain ⟨f, s, x, hsw⟩ := sw8_of hs0 hs7
  have z0c0 := z0.2 0 _ rfl
  have z0c1 := z0.2 1 _ rfl
  have z0c2 := z0.2 2 _ rfl
  go_wp2_with fail
  refine (opt_yes (t := ⟨N, I, O⟩) hn sn hi66 ho66 HB4.out HOK.out hs0 hs7 hsw).mono ?_
  rintro en w4 ⟨⟨k, Bn, kk, dn, Bi, di, Bo, do', rfl, hend, hf, sf, hg⟩, b⟩
  clear z0c0 z0c1 z0c2
  replace hn := hn.on b
  replace z0 := z0.on b
  replace BW := Below.step BW b
  clear b
  have HLE : Hid (kk + (itT f s x ⟨N, I, O⟩ k).2.2.2 = nn) := Lib.hid (by
    have := it_len f s x ⟨N, I, O⟩ k
    rw [hf.n.1] at this
    exact this.trans HLN.out)
  have HEND := Lib.hid hend
  have HGD := Lib.hid hg
  obtain ⟨t2, ht2⟩ : ∃ t2, (itT f s x ⟨N, I, O⟩ k).1 = t2 := ⟨_, rfl⟩
  have HT2 := Lib.hid ht2
  have hk1 := hend.one
  have hk2 := hend.top
  obtain ⟨c1, hc1⟩ : ∃ c, (itT f s x ⟨N, I, O⟩ k).2.1 = c := ⟨_, rfl⟩
  obtain ⟨c2, hc2⟩ : ∃ c, (itT f s x ⟨N, I, O⟩ k).2.2.1 = c := ⟨_, rfl⟩
  obtain ⟨c3, hc3⟩ : ∃ c, (itT f s x ⟨N, I, O⟩ k).2.2.2 = c := ⟨_, rfl⟩
  rw [ht2] at hf HGD
  rw [hc3] at HLE ⊢
  rw [hc2, hc1]
  clear ht2 hc1 hc2 hc3 hend hg
  go_upto_region 6 with fail
  obtain ⟨w5, e_n⟩ : ∃ w', w4.alloc (.cells #[.slice Bn kk dn, .slice Bi ni di, .slice Bo no do'] 25) = w' := ⟨_, rfl⟩
  have b : Below w4.heap.size w4 w5 := e_n ▸ below_lit _ _
  have zf : Bx w5 w4.heap.size [.slice Bn kk dn, .slice Bi ni di, .slice Bo no do'] := e_n ▸ Bx.made_k w4 rfl #[.slice Bn kk dn, .slice Bi ni di, .slice Bo no do'] 25
  have hsz : w5.heap.size = w4.heap.size + 1 := e_n ▸ size_lit w4 _ rfl
  rw [e_n]
  clear e_n
  replace hn := hn.on b
  replace z0 := z0.on b
  replace hf := hf.on b
  replace BW := Below.step BW b
  clear b
  obtain ⟨w6, e_n⟩ : ∃ w', w5.alloc (.cells #[.int .i64 (k : Int), .int .i64 (c1 : Int), .int .i64 (c2 : Int), .int .i64 (c3 : Int)] 57) = w' := ⟨_, rfl⟩
  have b : Below w5.heap.size w5 w6 := e_n ▸ below_lit _ _
  have zr : Bx w6 (w4.heap.size + 1) [.int .i64 (k : Int), .int .i64 (c1 : Int), .int .i64 (c2 : Int), .int .i64 (c3 : Int)] := e_n ▸ Bx.made_k w5 hsz #[.int .i64 (k : Int), .int .i64 (c1 : Int), .int .i64 (c2 : Int), .int .i64 (c3 : Int)] 57
  rw [e_n]
  clear e_n
  replace hn := hn.on b
  replace z0 := z0.on b
  replace hf := hf.on b
  replace zf := zf.on b
  replace BW := Below.step BW b
  clear b
  clear hsz
  obtain ⟨azr, ha⟩ : ∃ a, w4.heap.size + 1 = a := ⟨_, rfl⟩
  rw [ha] at zr ⊢
  clear ha
  obtain ⟨azf, ha⟩ : ∃ a, w4.heap.size = a := ⟨_, rfl⟩
  rw [ha] at zf ⊢
  clear ha
  have y1 : decide ((k : Int) < 1) = false := by simp; omega
  have y2 : decide (12 < (k : Int)) = false := by simp; omega
  have y3 : decide ((c1 : Int) < 0) = false := by simp
  have y4 : decide ((c2 : Int) < 0) = false := by simp
  have y7 : ¬ k < 1 := by omega
  have y8 : ¬ 12 < k := by omega
  have y5 : IntKind.i64.wrap ((nn : Int) - (kk : Int)) = (c3 : Int) := by have := HLE.out; rw [IntKind.wrap_i64]; omega
  have y6 : ((c3 : Int) != (c3 : Int)) = false := by simp
  have z0c0 := z0.2 0 _ rfl
  have z0c1 := z0.2 1 _ rfl
  have z0c2 := z0.2 2 _ rfl
  have zfc0 := zf.2 0 _ rfl
  have zfc1 := zf.2 1 _ rfl
  have zfc2 := zf.2 2 _ rfl
  have zrc0 := zr.2 0 _ rfl
  have zrc1 := zr.2 1 _ rfl
  have zrc2 := zr.2 2 _ rfl
  have zrc3 := zr.2 3 _ rfl
  go_upto_region 10 with fail
  clear y1 y2 y3 y4 y5 y6 y7 y8
  go_wp2_with fail
  refine (opt_yes (t := t2) hf sf hi66 ho66 (HGD.out.bits HB4.out) HGD.out.ok hs0 hs7 hsw).mono ?_
  rintro en w7 ⟨⟨k2, Cn, kk2, dn2, Ci, di2, Co, do2, rfl, hend2, hf2, _, _⟩, b⟩
  clear z0c0 z0c1 z0c2 zfc0 zfc1 zfc2 zrc0 zrc1 zrc2 zrc3
  replace hn := hn.on b
  replace z0 := z0.on b
  replace hf := hf.on b
  replace zf := zf.on b
  replace zr := zr.on b
  replace BW := Below.step BW b
  clear b
  by_cases hk12 : k = 12
  case pos =>
    obtain ⟨j0, hj0⟩ : ∃ q, (k2 : Int) = q := ⟨_, rfl⟩
    obtain ⟨j1, hj1⟩ : ∃ q, ((itT f s x t2 k2).2.1 : Int) = q := ⟨_, rfl⟩
    obtain ⟨j2, hj2⟩ : ∃ q, ((itT f s x t2 k2).2.2.1 : Int) = q := ⟨_, rfl⟩
    obtain ⟨j3, hj3⟩ : ∃ q, ((itT f s x t2 k2).2.2.2 : Int) = q := ⟨_, rfl⟩
    rw [hj1, hj2, hj3, hj0]
    clear hj0 hj1 hj2 hj3 hend2
    go_upto_region 11 with fail
    obtain ⟨w8, e_n⟩ : ∃ w', w7.alloc (.cells #[.slice Cn kk2 dn2, .slice Ci ni di2, .slice Co no do2] 25) = w' := ⟨_, rfl⟩
    have b : Below w7.heap.size w7 w8 := e_n ▸ below_lit _ _
    have zg : Bx w8 w7.heap.size [.slice Cn kk2 dn2, .slice Ci ni di2, .slice Co no do2] := e_n ▸ Bx.made_k w7 rfl #[.slice Cn kk2 dn2, .slice Ci ni di2, .slice Co no do2] 25
    have hsz : w8.heap.size = w7.heap.size + 1 := e_n ▸ size_lit w7 _ rfl
    rw [e_n]
    clear e_n
    replace hn := hn.on b
    replace z0 := z0.on b
    replace hf := hf.on b
    replace zf := zf.on b
    replace zr := zr.on b
    replace hf2 := hf2.on b
    replace BW := Below.step BW b
    clear b
    obtain ⟨w9, e_n⟩ : ∃ w', w8.alloc (.cells #[.int .i64 j0, .int .i64 j1, .int .i64 j2, .int .i64 j3] 57) = w' := ⟨_, rfl⟩
    have b : Below w8.heap.size w8 w9 := e_n ▸ below_lit _ _
    have zq : Bx w9 (w7.heap.size + 1) [.int .i64 j0, .int .i64 j1, .int .i64 j2, .int .i64 j3] := e_n ▸ Bx.made_k w8 hsz #[.int .i64 j0, .int .i64 j1, .int .i64 j2, .int .i64 j3] 57
    rw [e_n]
    clear e_n
    replace hn := hn.on b
    replace z0 := z0.on b
    replace hf := hf.on b
    replace zf := zf.on b
    replace zr := zr.on b
    replace hf2 := hf2.on b
    replace zg := zg.on b
    replace BW := Below.step BW b
    clear b
    clear hsz
    obtain ⟨azq, ha⟩ : ∃ a, w7.heap.size + 1 = a := ⟨_, rfl⟩
    rw [ha] at zq ⊢
    clear ha
    obtain ⟨azg, ha⟩ : ∃ a, w7.heap.size = a := ⟨_, rfl⟩
    rw [ha] at zg ⊢
    clear ha
    have y1 : ((k : Int) == 12) = true := by simp; omega
    clear hk12
    have zrc0 := zr.2 0 _ rfl
    have zrc1 := zr.2 1 _ rfl
    have zrc2 := zr.2 2 _ rfl
    have zrc3 := zr.2 3 _ rfl
    go_wp2_with fail
    go_ret
    exact ⟨rfl, BW⟩
  have HAG := Lib.hid (it_again HEND.out hk12)
  rw [HT2.out] at HAG
  obtain rfl : k2 = 1 := hend2.eq HAG.out.1
  rw [HAG.out.2] at hf2
  clear hend2
  obtain ⟨j1, hj1⟩ : ∃ q, ((itT f s x t2 1).2.1 : Int) = q := ⟨_, rfl⟩
  obtain ⟨j2, hj2⟩ : ∃ q, ((itT f s x t2 1).2.2.1 : Int) = q := ⟨_, rfl⟩
  obtain ⟨j3, hj3⟩ : ∃ q, ((itT f s x t2 1).2.2.2 : Int) = q := ⟨_, rfl⟩
  rw [hj1, hj2, hj3, show ((1 : Nat) : Int) = 1 from rfl]
  clear hj1 hj2 hj3
  go_upto_region 11 with fail
  obtain ⟨w8, e_n⟩ : ∃ w', w7.alloc (.cells #[.slice Cn kk2 dn2, .slice Ci ni di2, .slice Co no do2] 25) = w' := ⟨_, rfl⟩
  have b : Below w7.heap.size w7 w8 := e_n ▸ below_lit _ _
  have zg : Bx w8 w7.heap.size [.slice Cn kk2 dn2, .slice Ci ni di2, .slice Co no do2] := e_n ▸ Bx.made_k w7 rfl #[.slice Cn kk2 dn2, .slice Ci ni di2, .slice Co no do2] 25
  have hsz : w8.heap.size = w7.heap.size + 1 := e_n ▸ size_lit w7 _ rfl
  rw [e_n]
  clear e_n
  replace hn := hn.on b
  replace z0 := z0.on b
  replace hf := hf.on b
  replace zf := zf.on b
  replace zr := zr.on b
  replace hf2 := hf2.on b
  replace BW := Below.step BW b
  clear b
  obtain ⟨w9, e_n⟩ : ∃ w', w8.alloc (.cells #[.int .i64 1, .int .i64 j1, .int .i64 j2, .int .i64 j3] 57) = w' := ⟨_, rfl⟩
  have b : Below w8.heap.size w8 w9 := e_n ▸ below_lit _ _
  have zq : Bx w9 (w7.heap.size + 1) [.int .i64 1, .int .i64 j1, .int .i64 j2, .int .i64 j3] := e_n ▸ Bx.made_k w8 hsz #[.int .i64 1, .int .i64 j1, .int .i64 j2, .int .i64 j3] 57
  rw [e_n]
  clear e_n
  replace hn := hn.on b
  replace z0 := z0.on b
  replace hf := hf.on b
  replace zf := zf.on b
  replace zr := zr.on b
  replace hf2 := hf2.on b
  replace zg := zg.on b
  replace BW := Below.step BW b
  clear b
  clear hsz
  obtain ⟨azq, ha⟩ : ∃ a, w7.heap.size + 1 = a := ⟨_, rfl⟩
  rw [ha] at zq ⊢
  clear ha
  obtain ⟨azg, ha⟩ : ∃ a, w7.heap.size = a := ⟨_, rfl⟩
  rw [ha] at zg ⊢
  clear ha
  have y1 : ((k : Int) == 12) = false := by simp; omega
  clear hk12
  have zrc0 := zr.2 0 _ rfl
  have zrc1 := zr.2 1 _ rfl
  have zrc2 := zr.2 2 _ rfl
  have zrc3 := zr.2 3 _ rfl
  have zqc0 := zq.2 0 _ rfl
  have zqc1 := zq.2 1 _ rfl
  have zqc2 := zq.2 2 _ rfl
  have zqc3 := zq.2 3 _ rfl
  have zgc0 := zg.2 0 _ rfl
  have zgc1 := zg.2 1 _ rfl
  have zgc2 := zg.2 2 _ rfl
  have zfc0 := zf.2 0 _ rfl
  have zfc1 := zf.2 1 _ rfl
  have zfc2 := zf.2 2 _ rfl
  go_wp2_with fail
  refine (rsame_as hf2 hf true (sameS_me _ _ _)).mono ?_
  rintro en w10 ⟨rfl, b⟩
  clear zrc0 zrc1 zrc2 zrc3 zqc0 zqc1 zqc2 zqc3 zgc0 zgc1 zgc2 zfc0 zfc1 zfc2
  replace hn := hn.on b
  replace z0 := z0.on b
  replace hf := hf.on b
  replace zf := zf.on b
  replace zr := zr.on b
  replace hf2 := hf2.on b
  replace zg := zg.on b
  replace zq := zq.on b
  replace BW := Below.step BW b
  clear b
  go_wp2_with fail
  go_ret
  exact ⟨rfl, BW⟩
end Go.Proofs.Ytcehklnonhalhaa
