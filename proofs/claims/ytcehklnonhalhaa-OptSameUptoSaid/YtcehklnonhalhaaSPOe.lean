/-
  What the proofs of OptSame need: Oe Of Oh.
-/
import Derived.Test.YtcehklnonhalhaaSPOc
import Derived.Test.YtcehklnonhalhaaSPHR
import Derived.Test.YtcehklnonhalhaaSPLexG
set_option linter.unusedVariables false
namespace Go.Proofs.Ytcehklnonhalhaa
set_option maxRecDepth 4000
theorem lx_mk {N : List Nd} {I O : List Pt} {dd L : List Nat} (hw : wrongS N I O = 0) (hlv : levS N = some dd) (ho : ordO (some dd) = nI L) : LvN N I O dd L := by
 have hl : levelS N I O = (some dd, 0) := by
  unfold levelS
  rw [hw, hlv]
  rfl
 obtain ⟨L', lx⟩ := lv_x hl
 obtain rfl := nI_inj (lx.ord.symm.trans ho)
 exact lx
def t12 : Tn := ⟨[⟨0, 0, 0, 0⟩, ⟨1, 0, 0, 0⟩, ⟨2, 0, 0, 0⟩, ⟨3, 1, 2, 0⟩], [⟨⟨#[97]⟩, [1]⟩], [⟨⟨#[122]⟩, [3]⟩]⟩
def u12 : Tn := ⟨[⟨0, 0, 0, 0⟩, ⟨1, 0, 0, 0⟩, ⟨0, 1, 0, 0⟩, ⟨3, 1, 2, 0⟩], [⟨⟨#[97]⟩, [1]⟩], [⟨⟨#[122]⟩, [1]⟩]⟩
def v12 : Tn := ⟨[⟨1, 0, 0, 0⟩], [⟨⟨#[97]⟩, [0]⟩], [⟨⟨#[122]⟩, [0]⟩]⟩
theorem lv_t12 : levS t12.N = some [0, 0, 1, 2] := by
 have h : All t12.N (fun i => [0, 0, 1, 2].getD i 0) := by
  intro i hi
  have hi : i < 4 := hi
  rcases (show i = 0 ∨ i = 1 ∨ i = 2 ∨ i = 3 by omega) with rfl | rfl | rfl | rfl
  all_goals exact ⟨_, rfl, by decide, by decide⟩
 rw [levS_is h]
 rfl
theorem lv_u12 : levS u12.N = some [0, 0, 0, 1] := by
 have h : All u12.N (fun i => [0, 0, 0, 1].getD i 0) := by
  intro i hi
  have hi : i < 4 := hi
  rcases (show i = 0 ∨ i = 1 ∨ i = 2 ∨ i = 3 by omega) with rfl | rfl | rfl | rfl
  all_goals exact ⟨_, rfl, by decide, by decide⟩
 rw [levS_is h]
 rfl
theorem lv_v12 : levS v12.N = some [0] := by
 have h : All v12.N (fun i => [0].getD i 0) := by
  intro i hi
  have hi : i < 1 := hi
  obtain rfl : i = 0 := by omega
  exact ⟨_, rfl, by decide, by decide⟩
 rw [levS_is h]
 rfl
theorem lx_t12 : LvN t12.N t12.I t12.O [0, 0, 1, 2] [0, 1, 2, 3] := lx_mk (by decide +kernel) lv_t12 (by decide +kernel)
theorem lx_u12 : LvN u12.N u12.I u12.O [0, 0, 0, 1] [0, 1, 2, 3] := lx_mk (by decide +kernel) lv_u12 (by decide +kernel)
theorem lx_v12 : LvN v12.N v12.I v12.O [0] [0] := lx_mk (by decide +kernel) lv_v12 (by decide +kernel)
theorem fold_t12 : foldT t12 = (u12, 2) := by
 unfold foldT
 rw [ordT_eq lx_t12]
 kernel_rfl
theorem share_u12 : shareT u12 = (u12, 0) := by
 unfold shareT
 rw [ordT_eq lx_u12]
 kernel_rfl
theorem bits_u12 : bitsT u12 = [false, true, false, false] := by
 refine bitsT_eq ⟨_, _, lx_u12⟩ rfl fun p => ?_
 constructor
 ·intro h
  have e : p = 1 := by
   rcases p with _ | _ | _ | _ | p
   ·cases h
   ·rfl
   ·cases h
   ·cases h
   ·cases h
  subst e
  exact .base (by decide)
 ·intro h
  have e : p = 1 := h.closed (G := fun p => p = 1) (fun q hq => by
   have : (q : Int) = 1 := by simpa [comesS, u12] using hq
   omega) fun q hq y hy => by
    subst hq
    have e : usesS (u12.N.getD 1 nd0) = [] := rfl
    rw [e] at hy
    cases hy
  subst e
  rfl
theorem sweep_u12 : sweepT u12 = (v12, 3) := by
 unfold sweepT placT
 rw [bits_u12]
 kernel_rfl
theorem fold_v12 : foldT v12 = (v12, 0) := by
 unfold foldT
 rw [ordT_eq lx_v12]
 kernel_rfl
theorem share_v12 : shareT v12 = (v12, 0) := by
 unfold shareT
 rw [ordT_eq lx_v12]
 kernel_rfl
theorem bits_v12 : bitsT v12 = [true] := by
 refine bitsT_eq ⟨_, _, lx_v12⟩ rfl fun p => ?_
 constructor
 ·intro h
  have e : p = 0 := by
   rcases p with _ | p
   ·rfl
   ·cases h
  subst e
  exact .base (by decide)
 ·intro h
  have e : p = 0 := h.closed (G := fun p => p = 0) (fun q hq => by
   have : (q : Int) = 0 := by simpa [comesS, v12] using hq
   omega) fun q hq y hy => by
    subst hq
    have e : usesS (v12.N.getD 0 nd0) = [] := rfl
    rw [e] at hy
    cases hy
  subst e
  rfl
theorem sweep_v12 : sweepT v12 = (v12, 0) := by
 unfold sweepT placT
 rw [bits_v12]
 kernel_rfl
theorem rnd_t12 : roundT true true true t12 = (v12, (2, 0, 3)) := by
 simp only [roundT, partT_t, fold_t12, share_u12, sweep_u12]
theorem rnd_v12 : roundT true true true v12 = (v12, (0, 0, 0)) := by
 simp only [roundT, partT_t, fold_v12, share_v12, sweep_v12]
theorem it1_t12 : itT true true true t12 1 = (v12, (2, 0, 3)) := by
 show ((roundT true true true t12).1, (0 + (roundT true true true t12).2.1, 0 + (roundT true true true t12).2.2.1, 0 + (roundT true true true t12).2.2.2)) = _
 rw [rnd_t12]
 rfl
theorem it2_t12 : itT true true true t12 2 = (v12, (2, 0, 3)) := by
 have e : itT true true true t12 2 = ((roundT true true true (itT true true true t12 1).1).1, ((itT true true true t12 1).2.1 + (roundT true true true (itT true true true t12 1).1).2.1, (itT true true true t12 1).2.2.1 + (roundT true true true (itT true true true t12 1).1).2.2.1, (itT true true true t12 1).2.2.2 + (roundT true true true (itT true true true t12 1).1).2.2.2)) := rfl
 rw [e, it1_t12, rnd_v12]
 rfl
theorem end_t12 : EndK true true true t12 2 := ⟨by omega, by omega, fun j hj => by
 obtain rfl : j = 0 := by omega
 rw [it1_t12]
 intro h
 have : v12.N.length = t12.N.length := congrArg (fun t : Tn => t.N.length) h
 exact absurd this (by decide), .inr ⟨1, rfl, by rw [it2_t12, it1_t12]⟩⟩
theorem end_none (t : Tn) : EndK false false false t 1 ∧ itT false false false t 1 = (t, (0, 0, 0)) := ⟨⟨by omega, by omega, fun j hj => by omega, .inr ⟨0, rfl, rfl⟩⟩, rfl⟩
open Go.RowKit
set_option maxRecDepth 20000 in
set_option maxHeartbeats 8000000 in
theorem awake12_any (w : World) : Calls Try.prog 34 #[] w fun en w' => en = .returned (.bool true) ∧ Below w.heap.size w w' := by
 go_enter Try.func34, Try.ntmps34
 go_upto_region 2 with fail
 obtain ⟨w1, e_w1, b, hs_w1, xn⟩ := zmD w [.int .i64 0, .int .i64 0, .int .i64 0, .int .i64 0, .int .i64 1, .int .i64 0, .int .i64 0, .int .i64 0, .int .i64 2, .int .i64 0, .int .i64 0, .int .i64 0, .int .i64 3, .int .i64 1, .int .i64 2, .int .i64 0] 43
 rw [e_w1]
 clear e_w1
 have BW := b
 clear b
 obtain ⟨w2, e_w2⟩ : ∃ w', w1.alloc (.cells #[.int .i64 1] 3) = w' := ⟨_, rfl⟩
 have b : Below w1.heap.size w1 w2 := e_w2 ▸ below_lit _ _
 have hs_w2 : w2.heap.size = (w.heap.size + 1) + 1 := e_w2 ▸ size_lit w1 _ hs_w1
 have xa : Bx w2 (w.heap.size + 1) [.int .i64 1] := e_w2 ▸ Bx.made_k w1 hs_w1 #[.int .i64 1] 3
 rw [e_w2]
 clear e_w2
 replace xn := xn.on b
 replace BW := Below.step BW b
 clear b
 obtain ⟨w3, e_w3⟩ : ∃ w', w2.alloc (.cells #[.string ⟨#[97]⟩, .slice (some ⟨(w.heap.size + 1), 0, none⟩) 1 1] 41) = w' := ⟨_, rfl⟩
 have b : Below w2.heap.size w2 w3 := e_w3 ▸ below_lit _ _
 have hs_w3 : w3.heap.size = ((w.heap.size + 1) + 1) + 1 := e_w3 ▸ size_lit w2 _ hs_w2
 have xi : Bx w3 ((w.heap.size + 1) + 1) [.string ⟨#[97]⟩, .slice (some ⟨(w.heap.size + 1), 0, none⟩) 1 1] := e_w3 ▸ Bx.made_k w2 hs_w2 #[.string ⟨#[97]⟩, .slice (some ⟨(w.heap.size + 1), 0, none⟩) 1 1] 41
 rw [e_w3]
 clear e_w3
 replace xn := xn.on b
 replace xa := xa.on b
 replace BW := Below.step BW b
 clear b
 obtain ⟨w4, e_w4⟩ : ∃ w', w3.alloc (.cells #[.int .i64 3] 3) = w' := ⟨_, rfl⟩
 have b : Below w3.heap.size w3 w4 := e_w4 ▸ below_lit _ _
 have hs_w4 : w4.heap.size = (((w.heap.size + 1) + 1) + 1) + 1 := e_w4 ▸ size_lit w3 _ hs_w3
 have xb : Bx w4 (((w.heap.size + 1) + 1) + 1) [.int .i64 3] := e_w4 ▸ Bx.made_k w3 hs_w3 #[.int .i64 3] 3
 rw [e_w4]
 clear e_w4
 replace xn := xn.on b
 replace xa := xa.on b
 replace xi := xi.on b
 replace BW := Below.step BW b
 clear b
 obtain ⟨w5, e_w5⟩ : ∃ w', w4.alloc (.cells #[.string ⟨#[122]⟩, .slice (some ⟨(((w.heap.size + 1) + 1) + 1), 0, none⟩) 1 1] 41) = w' := ⟨_, rfl⟩
 have b : Below w4.heap.size w4 w5 := e_w5 ▸ below_lit _ _
 have hs_w5 : w5.heap.size = ((((w.heap.size + 1) + 1) + 1) + 1) + 1 := e_w5 ▸ size_lit w4 _ hs_w4
 have xo : Bx w5 ((((w.heap.size + 1) + 1) + 1) + 1) [.string ⟨#[122]⟩, .slice (some ⟨(((w.heap.size + 1) + 1) + 1), 0, none⟩) 1 1] := e_w5 ▸ Bx.made_k w4 hs_w4 #[.string ⟨#[122]⟩, .slice (some ⟨(((w.heap.size + 1) + 1) + 1), 0, none⟩) 1 1] 41
 rw [e_w5]
 clear e_w5
 replace xn := xn.on b
 replace xa := xa.on b
 replace xi := xi.on b
 replace xb := xb.on b
 replace BW := Below.step BW b
 clear b
 obtain ⟨w6, e_w6⟩ : ∃ w', w5.alloc (.cells #[.slice (some ⟨w.heap.size, 0, none⟩) 4 4, .slice (some ⟨((w.heap.size + 1) + 1), 0, none⟩) 1 1, .slice (some ⟨((((w.heap.size + 1) + 1) + 1) + 1), 0, none⟩) 1 1] 25) = w' := ⟨_, rfl⟩
 have b : Below w5.heap.size w5 w6 := e_w6 ▸ below_lit _ _
 have hs_w6 : w6.heap.size = (((((w.heap.size + 1) + 1) + 1) + 1) + 1) + 1 := e_w6 ▸ size_lit w5 _ hs_w5
 have zn : Bx w6 (((((w.heap.size + 1) + 1) + 1) + 1) + 1) [.slice (some ⟨w.heap.size, 0, none⟩) 4 4, .slice (some ⟨((w.heap.size + 1) + 1), 0, none⟩) 1 1, .slice (some ⟨((((w.heap.size + 1) + 1) + 1) + 1), 0, none⟩) 1 1] := e_w6 ▸ Bx.made_k w5 hs_w5 #[.slice (some ⟨w.heap.size, 0, none⟩) 4 4, .slice (some ⟨((w.heap.size + 1) + 1), 0, none⟩) 1 1, .slice (some ⟨((((w.heap.size + 1) + 1) + 1) + 1), 0, none⟩) 1 1] 25
 rw [e_w6]
 clear e_w6
 replace xn := xn.on b
 replace xa := xa.on b
 replace xi := xi.on b
 replace xb := xb.on b
 replace xo := xo.on b
 replace BW := Below.step BW b
 clear b
 have h : Nt w6 (some ⟨w.heap.size, 0, none⟩) 4 4 (some ⟨((w.heap.size + 1) + 1), 0, none⟩) 1 1 (some ⟨((((w.heap.size + 1) + 1) + 1) + 1), 0, none⟩) 1 1 t12.N t12.I t12.O := ⟨Bx.ns (L := t12.N) xn, xi.ps1 (Bx.is (L := [1]) xa) ⟨by omega, fun e => by cases e⟩ (by unfold maxLen; omega), xo.ps1 (Bx.is (L := [3]) xb) ⟨by omega, fun e => by cases e⟩ (by unfold maxLen; omega), Sw.one _ _ (by omega), Sw.one _ _ (by omega), by omega, by omega, fun p hp => by simp [t12] at hp; rcases hp with rfl | rfl <;> simp⟩
 clear xn xa xi xb xo
 clear hs_w1 hs_w2 hs_w3 hs_w4 hs_w5 hs_w6
 obtain ⟨a5, ha5⟩ : ∃ a, (((((w.heap.size + 1) + 1) + 1) + 1) + 1) = a := ⟨_, rfl⟩
 rw [ha5] at zn ⊢
 clear ha5
 obtain ⟨a4, ha4⟩ : ∃ a, ((((w.heap.size + 1) + 1) + 1) + 1) = a := ⟨_, rfl⟩
 rw [ha4] at h zn ⊢
 clear ha4
 obtain ⟨a3, ha3⟩ : ∃ a, (((w.heap.size + 1) + 1) + 1) = a := ⟨_, rfl⟩
 rw [ha3] at ⊢
 clear ha3
 obtain ⟨a2, ha2⟩ : ∃ a, ((w.heap.size + 1) + 1) = a := ⟨_, rfl⟩
 rw [ha2] at h zn ⊢
 clear ha2
 obtain ⟨a1, ha1⟩ : ∃ a, (w.heap.size + 1) = a := ⟨_, rfl⟩
 rw [ha1] at ⊢
 clear ha1
 obtain ⟨znc0, znc1, znc2⟩ := zn.zb3
 go_wp2_with fail
 refine (opt_yes (t := t12) (f := true) (s := true) (x := true) h (Sw.one _ _ (by omega)) (by omega) (by omega) (fun p hp => by simp [t12] at hp; rcases hp with rfl | rfl <;> simp) ⟨_, _, lx_t12⟩ (by omega) (by omega) ⟨rfl, rfl, rfl⟩).mono ?_
 rintro en w7 ⟨⟨kr, Bk, k, ck, Bi, di, Bo, do', rfl, hend, hf, _, _⟩, b⟩
 clear znc0 znc1 znc2
 replace zn := zn.on b
 replace h := h.on b
 replace BW := Below.step BW b
 clear b
 obtain rfl : kr = 2 := hend.eq end_t12
 rw [it2_t12] at hf ⊢
 dsimp only
 rw [show ((2 : Nat) : Int) = 2 from rfl, show ((0 : Nat) : Int) = 0 from rfl, show ((3 : Nat) : Int) = 3 from rfl]
 obtain rfl : 1 = k := hf.n.1
 clear hend
 go_upto_region 3 with fail
 obtain ⟨w8, e_w8, b, hs_w8, zf⟩ := zmD w7 [.slice Bk 1 ck, .slice Bi 1 di, .slice Bo 1 do'] 25
 rw [e_w8]
 clear e_w8
 replace zn := zn.on b
 replace h := h.on b
 replace hf := hf.on b
 replace BW := Below.step BW b
 clear b
 obtain ⟨w9, e_w9⟩ : ∃ w', w8.alloc (.cells #[.int .i64 2, .int .i64 2, .int .i64 0, .int .i64 3] 57) = w' := ⟨_, rfl⟩
 have b : Below w8.heap.size w8 w9 := e_w9 ▸ below_lit _ _
 have hs_w9 : w9.heap.size = (w7.heap.size + 1) + 1 := e_w9 ▸ size_lit w8 _ hs_w8
 have zr : Bx w9 (w7.heap.size + 1) [.int .i64 2, .int .i64 2, .int .i64 0, .int .i64 3] := e_w9 ▸ Bx.made_k w8 hs_w8 #[.int .i64 2, .int .i64 2, .int .i64 0, .int .i64 3] 57
 rw [e_w9]
 clear e_w9
 replace zn := zn.on b
 replace h := h.on b
 replace hf := hf.on b
 replace zf := zf.on b
 replace BW := Below.step BW b
 clear b
 clear hs_w8 hs_w9
 obtain ⟨znc0, znc1, znc2⟩ := zn.zb3
 go_wp2_with fail
 refine (opt_arg (sw := 8) (.inr (by omega))).mono ?_
 rintro en w10 ⟨rfl, b⟩
 clear znc0 znc1 znc2
 replace zn := zn.on b
 replace h := h.on b
 replace hf := hf.on b
 replace zf := zf.on b
 replace zr := zr.on b
 replace BW := Below.step BW b
 clear b
 go_upto_region 4 with fail
 obtain ⟨w11, e_w11, b, hs_w11, zx⟩ := zmD w10 [.slice none 0 0, .slice none 0 0, .slice none 0 0] 25
 rw [e_w11]
 clear e_w11
 replace zn := zn.on b
 replace h := h.on b
 replace hf := hf.on b
 replace zf := zf.on b
 replace zr := zr.on b
 replace BW := Below.step BW b
 clear b
 obtain ⟨w12, e_w12⟩ : ∃ w', w11.alloc (.cells #[.int .i64 0, .int .i64 0, .int .i64 0, .int .i64 0] 57) = w' := ⟨_, rfl⟩
 have b : Below w11.heap.size w11 w12 := e_w12 ▸ below_lit _ _
 have hs_w12 : w12.heap.size = (w10.heap.size + 1) + 1 := e_w12 ▸ size_lit w11 _ hs_w11
 have zy : Bx w12 (w10.heap.size + 1) [.int .i64 0, .int .i64 0, .int .i64 0, .int .i64 0] := e_w12 ▸ Bx.made_k w11 hs_w11 #[.int .i64 0, .int .i64 0, .int .i64 0, .int .i64 0] 57
 rw [e_w12]
 clear e_w12
 replace zn := zn.on b
 replace h := h.on b
 replace hf := hf.on b
 replace zf := zf.on b
 replace zr := zr.on b
 replace zx := zx.on b
 replace BW := Below.step BW b
 clear b
 clear hs_w11 hs_w12
 clear zx zy
 obtain ⟨znc0, znc1, znc2⟩ := zn.zb3
 go_wp2_with fail
 refine (opt_yes (t := t12) (f := false) (s := false) (x := false) h (Sw.one _ _ (by omega)) (by omega) (by omega) (fun p hp => by simp [t12] at hp; rcases hp with rfl | rfl <;> simp) ⟨_, _, lx_t12⟩ (by omega) (by omega) ⟨rfl, rfl, rfl⟩).mono ?_
 rintro en w13 ⟨⟨kr, Ck, k, ck2, Ci, di2, Co, do2, rfl, hend, hg, _, _⟩, b⟩
 clear znc0 znc1 znc2
 replace zn := zn.on b
 replace h := h.on b
 replace hf := hf.on b
 replace zf := zf.on b
 replace zr := zr.on b
 replace BW := Below.step BW b
 clear b
 obtain rfl : kr = 1 := hend.eq (end_none t12).1
 rw [(end_none t12).2] at hg ⊢
 dsimp only
 rw [show ((1 : Nat) : Int) = 1 from rfl, show ((0 : Nat) : Int) = 0 from rfl]
 obtain rfl : 4 = k := hg.n.1
 clear hend
 go_upto_region 5 with fail
 obtain ⟨w14, e_w14, b, hs_w14, zg⟩ := zmD w13 [.slice Ck 4 ck2, .slice Ci 1 di2, .slice Co 1 do2] 25
 rw [e_w14]
 clear e_w14
 replace zn := zn.on b
 replace h := h.on b
 replace hf := hf.on b
 replace zf := zf.on b
 replace zr := zr.on b
 replace hg := hg.on b
 replace BW := Below.step BW b
 clear b
 obtain ⟨w15, e_w15⟩ : ∃ w', w14.alloc (.cells #[.int .i64 1, .int .i64 0, .int .i64 0, .int .i64 0] 57) = w' := ⟨_, rfl⟩
 have b : Below w14.heap.size w14 w15 := e_w15 ▸ below_lit _ _
 have hs_w15 : w15.heap.size = (w13.heap.size + 1) + 1 := e_w15 ▸ size_lit w14 _ hs_w14
 have zs : Bx w15 (w13.heap.size + 1) [.int .i64 1, .int .i64 0, .int .i64 0, .int .i64 0] := e_w15 ▸ Bx.made_k w14 hs_w14 #[.int .i64 1, .int .i64 0, .int .i64 0, .int .i64 0] 57
 rw [e_w15]
 clear e_w15
 replace zn := zn.on b
 replace h := h.on b
 replace hf := hf.on b
 replace zf := zf.on b
 replace zr := zr.on b
 replace hg := hg.on b
 replace zg := zg.on b
 replace BW := Below.step BW b
 clear b
 clear hs_w14 hs_w15
 obtain ⟨zfc0, zfc1, zfc2⟩ := zf.zb3
 go_wp2_with fail
 clear zfc0 zfc1 zfc2
 obtain ⟨w16, e_w16, b, hs_w16, xn⟩ := zmD w15 [.int .i64 1, .int .i64 0, .int .i64 0, .int .i64 0] 43
 rw [e_w16]
 clear e_w16
 replace zn := zn.on b
 replace h := h.on b
 replace hf := hf.on b
 replace zf := zf.on b
 replace zr := zr.on b
 replace hg := hg.on b
 replace zg := zg.on b
 replace zs := zs.on b
 replace BW := Below.step BW b
 clear b
 obtain ⟨w17, e_w17⟩ : ∃ w', w16.alloc (.cells #[.int .i64 0] 3) = w' := ⟨_, rfl⟩
 have b : Below w16.heap.size w16 w17 := e_w17 ▸ below_lit _ _
 have hs_w17 : w17.heap.size = (w15.heap.size + 1) + 1 := e_w17 ▸ size_lit w16 _ hs_w16
 have xa : Bx w17 (w15.heap.size + 1) [.int .i64 0] := e_w17 ▸ Bx.made_k w16 hs_w16 #[.int .i64 0] 3
 rw [e_w17]
 clear e_w17
 replace zn := zn.on b
 replace h := h.on b
 replace hf := hf.on b
 replace zf := zf.on b
 replace zr := zr.on b
 replace hg := hg.on b
 replace zg := zg.on b
 replace zs := zs.on b
 replace xn := xn.on b
 replace BW := Below.step BW b
 clear b
 obtain ⟨w18, e_w18⟩ : ∃ w', w17.alloc (.cells #[.string ⟨#[97]⟩, .slice (some ⟨(w15.heap.size + 1), 0, none⟩) 1 1] 41) = w' := ⟨_, rfl⟩
 have b : Below w17.heap.size w17 w18 := e_w18 ▸ below_lit _ _
 have hs_w18 : w18.heap.size = ((w15.heap.size + 1) + 1) + 1 := e_w18 ▸ size_lit w17 _ hs_w17
 have xi : Bx w18 ((w15.heap.size + 1) + 1) [.string ⟨#[97]⟩, .slice (some ⟨(w15.heap.size + 1), 0, none⟩) 1 1] := e_w18 ▸ Bx.made_k w17 hs_w17 #[.string ⟨#[97]⟩, .slice (some ⟨(w15.heap.size + 1), 0, none⟩) 1 1] 41
 rw [e_w18]
 clear e_w18
 replace zn := zn.on b
 replace h := h.on b
 replace hf := hf.on b
 replace zf := zf.on b
 replace zr := zr.on b
 replace hg := hg.on b
 replace zg := zg.on b
 replace zs := zs.on b
 replace xn := xn.on b
 replace xa := xa.on b
 replace BW := Below.step BW b
 clear b
 obtain ⟨w19, e_w19⟩ : ∃ w', w18.alloc (.cells #[.int .i64 0] 3) = w' := ⟨_, rfl⟩
 have b : Below w18.heap.size w18 w19 := e_w19 ▸ below_lit _ _
 have hs_w19 : w19.heap.size = (((w15.heap.size + 1) + 1) + 1) + 1 := e_w19 ▸ size_lit w18 _ hs_w18
 have xb : Bx w19 (((w15.heap.size + 1) + 1) + 1) [.int .i64 0] := e_w19 ▸ Bx.made_k w18 hs_w18 #[.int .i64 0] 3
 rw [e_w19]
 clear e_w19
 replace zn := zn.on b
 replace h := h.on b
 replace hf := hf.on b
 replace zf := zf.on b
 replace zr := zr.on b
 replace hg := hg.on b
 replace zg := zg.on b
 replace zs := zs.on b
 replace xn := xn.on b
 replace xa := xa.on b
 replace xi := xi.on b
 replace BW := Below.step BW b
 clear b
 obtain ⟨w20, e_w20⟩ : ∃ w', w19.alloc (.cells #[.string ⟨#[122]⟩, .slice (some ⟨(((w15.heap.size + 1) + 1) + 1), 0, none⟩) 1 1] 41) = w' := ⟨_, rfl⟩
 have b : Below w19.heap.size w19 w20 := e_w20 ▸ below_lit _ _
 have hs_w20 : w20.heap.size = ((((w15.heap.size + 1) + 1) + 1) + 1) + 1 := e_w20 ▸ size_lit w19 _ hs_w19
 have xo : Bx w20 ((((w15.heap.size + 1) + 1) + 1) + 1) [.string ⟨#[122]⟩, .slice (some ⟨(((w15.heap.size + 1) + 1) + 1), 0, none⟩) 1 1] := e_w20 ▸ Bx.made_k w19 hs_w19 #[.string ⟨#[122]⟩, .slice (some ⟨(((w15.heap.size + 1) + 1) + 1), 0, none⟩) 1 1] 41
 rw [e_w20]
 clear e_w20
 replace zn := zn.on b
 replace h := h.on b
 replace hf := hf.on b
 replace zf := zf.on b
 replace zr := zr.on b
 replace hg := hg.on b
 replace zg := zg.on b
 replace zs := zs.on b
 replace xn := xn.on b
 replace xa := xa.on b
 replace xi := xi.on b
 replace xb := xb.on b
 replace BW := Below.step BW b
 clear b
 have h2 : Nt w20 (some ⟨w15.heap.size, 0, none⟩) 1 1 (some ⟨((w15.heap.size + 1) + 1), 0, none⟩) 1 1 (some ⟨((((w15.heap.size + 1) + 1) + 1) + 1), 0, none⟩) 1 1 v12.N v12.I v12.O := ⟨Bx.ns (L := v12.N) xn, xi.ps1 (Bx.is (L := [0]) xa) ⟨by omega, fun e => by cases e⟩ (by unfold maxLen; omega), xo.ps1 (Bx.is (L := [0]) xb) ⟨by omega, fun e => by cases e⟩ (by unfold maxLen; omega), Sw.one _ _ (by omega), Sw.one _ _ (by omega), by omega, by omega, fun p hp => by simp [v12] at hp; rcases hp with rfl | rfl <;> simp⟩
 clear xn xa xi xb xo
 clear hs_w20
 refine (rsame_as hf h2 true (sameS_me _ _ _)).mono ?_
 rintro en w21 ⟨rfl, b⟩
 replace zn := zn.on b
 replace h := h.on b
 replace hf := hf.on b
 replace zf := zf.on b
 replace zr := zr.on b
 replace hg := hg.on b
 replace zg := zg.on b
 replace zs := zs.on b
 replace BW := Below.step BW b
 clear b
 clear h2
 clear hf
 obtain ⟨zrc0, zrc1, zrc2, zrc3⟩ := zr.zb4
 obtain ⟨zgc0, zgc1, zgc2⟩ := zg.zb3
 obtain ⟨znc0, znc1, znc2⟩ := zn.zb3
 go_wp2_with fail
 refine (rsame_as hg h true (sameS_me _ _ _)).mono ?_
 rintro en w22 ⟨rfl, b⟩
 clear zrc0 zrc1 zrc2 zrc3 zgc0 zgc1 zgc2 znc0 znc1 znc2
 replace zn := zn.on b
 replace h := h.on b
 replace zf := zf.on b
 replace zr := zr.on b
 replace hg := hg.on b
 replace zg := zg.on b
 replace zs := zs.on b
 replace BW := Below.step BW b
 clear b
 obtain ⟨zsc0, zsc1, zsc2, zsc3⟩ := zs.zb4
 go_wp2_with fail
 go_ret
 exact ⟨rfl, BW⟩
theorem level_ne1 {N : List Nd} {I O : List Pt} {d : Option (List Nat)} {e : Int} (h : levelS N I O = (d, e)) : (e == 1) = false := by
 unfold levelS at h
 split at h
 ·obtain ⟨_, rfl⟩ := Prod.mk.inj h
  unfold wrongS
  (repeat' split) <;> rfl
 ·split at h <;> (obtain ⟨_, rfl⟩ := Prod.mk.inj h; rfl)
set_option maxRecDepth 20000 in
set_option maxHeartbeats 8000000 in
theorem optSame_as {An Ai Ao : Option Addr} {nn cn ni ci no co : Nat} {N : List Nd} {I O : List Pt} {w : World} (h : NetIn w An nn cn Ai ni ci Ao no co N I O) {As : Option Addr} {ns cs : Nat} {T : List (Sm × List Sn)} (hs : NnE 1048576 w As ns T) (hns : ns ≤ 1048576) (sw : Int) :
    Calls Try.prog 11 #[.agg #[.slice An nn cn, .slice Ai ni ci, .slice Ao no co], .int .i64 sw, .slice As ns cs] w fun en w' => en = .returned (.bool true) ∧ Below w.heap.size w w' := by
  go_enter Try.func11, Try.ntmps11
  go_upto_region 1 with fail
  obtain ⟨w1, e_w1, z0, BW⟩ := zmB w [.slice An nn cn, .slice Ai ni ci, .slice Ao no co] 25
  rw [e_w1]
  clear e_w1
  replace h := h.on BW
  replace hs := hs.on BW
  go_wp2_with fail
  refine (awake12_any _).mono ?_
  rintro en w2 ⟨rfl, b⟩
  replace h := h.on b
  replace hs := hs.on b
  replace z0 := z0.on b
  replace BW := Below.step BW b
  clear b
  go_upto_region 3 with fail
  have bd : Below w2.heap.size w2 w2.drew := (Below.refl _ _).drew
  replace h := h.on bd
  replace hs := hs.on bd
  replace z0 := z0.on bd
  replace BW := Lib.hid (Below.step BW bd)
  clear bd
  go_region_held3 (fun w' => w'.cell? ⟨w.heap.size, 0, none⟩ = some (.slice An nn cn) ∧ w'.cell? ⟨w.heap.size, 1, none⟩ = some (.slice Ai ni ci) ∧ w'.cell? ⟨w.heap.size, 2, none⟩ = some (.slice Ao no co))
    ((with_reducible exact bx3 z0))
    (first
      | (go_at_call 16
         (with_reducible refine (scriptE_as hs hns).mono ?_)
         rintro en w5 ⟨A5, c5, T5, rfl, hs5, hsnd, hscr, b⟩
         replace hsnd := Lib.hid hsnd
         replace hscr := Lib.hid hscr
         replace h := h.on b
         replace hs := hs.on b
         replace z0 := z0.on b
         replace BW := Lib.hid (Below.step BW.out b)
         clear b)
      | (go_at_call 15
         (with_reducible refine (large9_as h hs5 hns).mono ?_)
         rintro en w6 ⟨v, rfl, hv, b⟩
         replace hv := Lib.hid hv
         replace h := h.on b
         replace hs := hs.on b
         replace hs5 := hs5.on b
         replace z0 := z0.on b
         replace BW := Lib.hid (Below.step BW.out b)
         clear b))
  replace BW := BW.out
  cases v
  case true =>
    go_wp2_with fail
    go_ret
    exact ⟨rfl, BW⟩
  obtain ⟨hlg, hns20, hle5⟩ := hv.out rfl
  have hle : Le 1000 T := Le.same hs hs5 hsnd.out hle5
  obtain ⟨hn, hn60, hi66, ho66, hbb⟩ := h.nt hlg
  have HB4 : Hid (∀ p ∈ I ++ O, p.bits.length ≤ 4000) := Lib.hid fun p hp => (hbb p hp).1
  have HBB : Hid (∀ p ∈ I ++ O, p.bits.length ≤ 100000) := Lib.hid fun p hp => by have := (hbb p hp).1; omega
  have sn := h.sn
  have hs2 : NnB 30000 w6 As ns (scr T) := (hs.nb hle).le (by omega)
  have hsE := hs
  have hLE := Lib.hid hle
  clear h hlg hbb hv hle5 hs5 hsnd hscr hle hs
  by_cases hsw : sw < 0 ∨ 7 < sw
  case pos =>
    clear HBB HB4 hs2 hsE sn hLE
    obtain ⟨z0c0, z0c1, z0c2⟩ := z0.zb3
    go_wp2_with fail
    refine (opt_arg hsw).mono ?_
    rintro en w7 ⟨rfl, b⟩
    clear z0c0 z0c1 z0c2
    replace hn := hn.on b
    replace z0 := z0.on b
    replace BW := Below.step BW b
    clear b
    go_upto_region 6 with fail
    obtain ⟨w8, e_n, zf, b⟩ := zmB w7 [.slice none 0 0, .slice none 0 0, .slice none 0 0] 25
    have hsz : w8.heap.size = w7.heap.size + 1 := e_n ▸ size_lit w7 _ rfl
    rw [e_n]
    clear e_n
    replace hn := hn.on b
    replace z0 := z0.on b
    replace BW := Below.step BW b
    clear b
    obtain ⟨w9, e_n⟩ : ∃ w', w8.alloc (.cells #[.int .i64 0, .int .i64 0, .int .i64 0, .int .i64 0] 57) = w' := ⟨_, rfl⟩
    have b : Below w8.heap.size w8 w9 := e_n ▸ below_lit _ _
    have zr : Bx w9 (w7.heap.size + 1) [.int .i64 0, .int .i64 0, .int .i64 0, .int .i64 0] := e_n ▸ Bx.made_k w8 hsz #[.int .i64 0, .int .i64 0, .int .i64 0, .int .i64 0] 57
    rw [e_n]
    clear e_n
    replace hn := hn.on b
    replace z0 := z0.on b
    replace zf := zf.on b
    replace BW := Below.step BW b
    clear b
    clear hsz
    obtain ⟨azr, ha⟩ : ∃ a, w7.heap.size + 1 = a := ⟨_, rfl⟩
    rw [ha] at zr ⊢
    clear ha
    obtain ⟨azf, ha⟩ : ∃ a, w7.heap.size = a := ⟨_, rfl⟩
    rw [ha] at zf ⊢
    clear ha
    obtain ⟨zfc0, zfc1, zfc2⟩ := zf.zb3
    obtain ⟨zrc0, zrc1, zrc2, zrc3⟩ := zr.zb4
    rcases (show sw < 0 ∨ (0 ≤ sw ∧ 7 < sw) by omega) with h1 | ⟨h1, h2⟩
    · have y1 : decide (sw < 0) = true := by simpa using h1
      clear hsw h1
      go_wp2_with fail
      go_ret
      exact ⟨rfl, BW⟩
    · have y1 : decide (sw < 0) = false := by simpa using h1
      have y2 : decide (7 < sw) = true := by simpa using h2
      clear hsw h1 h2
      go_wp2_with fail
      go_ret
      exact ⟨rfl, BW⟩
  have hs0 : 0 ≤ sw := by omega
  have hs7 : sw ≤ 7 := by omega
  clear hsw
  obtain ⟨d, e, hl⟩ : ∃ d e, levelS N I O = (d, e) := ⟨_, _, rfl⟩
  by_cases he : e = 0
  case neg =>
    have y4 := level_ne1 hl
    have d0 : (e != 0) = true := by simpa using he
    have HL := Lib.hid hl
    clear hl
    clear he
    clear HBB HB4 hs2 hsE sn hLE
    obtain ⟨z0c0, z0c1, z0c2⟩ := z0.zb3
    go_wp2_with fail
    refine (opt_no (sw := sw) hn hs0 hs7 HL.out d0).mono ?_
    rintro en w7 ⟨rfl, b⟩
    clear z0c0 z0c1 z0c2
    replace hn := hn.on b
    replace z0 := z0.on b
    replace BW := Below.step BW b
    clear b
    go_upto_region 6 with fail
    obtain ⟨w8, e_n, zf, b⟩ := zmB w7 [.slice none 0 0, .slice none 0 0, .slice none 0 0] 25
    have hsz : w8.heap.size = w7.heap.size + 1 := e_n ▸ size_lit w7 _ rfl
    rw [e_n]
    clear e_n
    replace hn := hn.on b
    replace z0 := z0.on b
    replace BW := Below.step BW b
    clear b
    obtain ⟨w9, e_n⟩ : ∃ w', w8.alloc (.cells #[.int .i64 0, .int .i64 0, .int .i64 0, .int .i64 0] 57) = w' := ⟨_, rfl⟩
    have b : Below w8.heap.size w8 w9 := e_n ▸ below_lit _ _
    have zr : Bx w9 (w7.heap.size + 1) [.int .i64 0, .int .i64 0, .int .i64 0, .int .i64 0] := e_n ▸ Bx.made_k w8 hsz #[.int .i64 0, .int .i64 0, .int .i64 0, .int .i64 0] 57
    rw [e_n]
    clear e_n
    replace hn := hn.on b
    replace z0 := z0.on b
    replace zf := zf.on b
    replace BW := Below.step BW b
    clear b
    clear hsz
    obtain ⟨azr, ha⟩ : ∃ a, w7.heap.size + 1 = a := ⟨_, rfl⟩
    rw [ha] at zr ⊢
    clear ha
    obtain ⟨azf, ha⟩ : ∃ a, w7.heap.size = a := ⟨_, rfl⟩
    rw [ha] at zf ⊢
    clear ha
    have y1 : decide (sw < 0) = false := by simpa using hs0
    have y2 : decide (7 < sw) = false := by simpa using hs7
    obtain ⟨zfc0, zfc1, zfc2⟩ := zf.zb3
    obtain ⟨zrc0, zrc1, zrc2, zrc3⟩ := zr.zb4
    go_wp2_with fail
    go_ret
    exact ⟨rfl, BW⟩
  subst he
  obtain ⟨dd, rfl⟩ := some_of9 hl
  obtain ⟨L, lx⟩ := lv_x hl
  have HOK : Hid (OkT ⟨N, I, O⟩) := Lib.hid ⟨dd, L, lx⟩
  have HLN := Lib.hid hn.n.1
  have LX := Lib.hid lx
  clear hl lx
  obtain ⟨f, s, x, hsw⟩ := sw8_of hs0 hs7
  obtain ⟨z0c0, z0c1, z0c2⟩ := z0.zb3
  go_wp2_with fail
  refine (opt_yes (t := ⟨N, I, O⟩) hn sn hi66 ho66 HB4.out HOK.out hs0 hs7 hsw).mono ?_
  rintro en w7 ⟨⟨k, Bn, kk, dn, Bi, di, Bo, do', rfl, hend, hf, sf, hg⟩, b⟩
  clear z0c0 z0c1 z0c2
  replace hn := hn.on b
  replace hs2 := hs2.on b
  replace hsE := hsE.on b
  replace z0 := z0.on b
  replace BW := Below.step BW b
  clear b
  clear hend hsw
  obtain ⟨t2, ht2⟩ : ∃ t2, (itT f s x ⟨N, I, O⟩ k).1 = t2 := ⟨_, rfl⟩
  obtain ⟨c0, hc0⟩ : ∃ c, (k : Int) = c := ⟨_, rfl⟩
  obtain ⟨c1, hc1⟩ : ∃ c, ((itT f s x ⟨N, I, O⟩ k).2.1 : Int) = c := ⟨_, rfl⟩
  obtain ⟨c2, hc2⟩ : ∃ c, ((itT f s x ⟨N, I, O⟩ k).2.2.1 : Int) = c := ⟨_, rfl⟩
  obtain ⟨c3, hc3⟩ : ∃ c, ((itT f s x ⟨N, I, O⟩ k).2.2.2 : Int) = c := ⟨_, rfl⟩
  rw [ht2] at hf hg
  rw [hc3, hc2, hc1, hc0]
  clear ht2 hc0 hc1 hc2 hc3
  obtain ⟨M, I2, O2⟩ := t2
  have HGD := Lib.hid hg
  have hml : M.length = kk := hf.n.1
  have HML := Lib.hid hml
  have hle : kk ≤ nn := by rw [← hml, ← HLN.out]; exact hg.le
  obtain ⟨d2, hd2⟩ := hg.rw.lev
  have HD2 : Hid (levelS M I2 O2 = (some d2, 0)) := Lib.hid hd2
  have HFB : Hid (∀ p ∈ I2 ++ O2, p.bits.length ≤ 100000) := Lib.hid fun p hp => by have := hg.bits HB4.out p hp; omega
  have HF1 : Hid (N.all (formedS nn) = true ∧ (I ++ O).all (bitsS nn) = true) := Lib.hid (by rw [← HLN.out]; exact ⟨LX.out.fm, LX.out.bits⟩)
  have HF2 : Hid (M.all (formedS kk) = true ∧ (I2 ++ O2).all (bitsS kk) = true) := Lib.hid (by rw [← HML.out]; exact ⟨hg.rw.fm, hg.rw.bits⟩)
  obtain ⟨g1, hga1⟩ := LX.out.all
  obtain ⟨g2, hga2⟩ : ∃ g, All M g := hg.rw.all
  have HFA := Lib.hid hga1
  have HGA := Lib.hid hga2
  have HPI : Hid (Pa I I2 ∧ Pa O O2) := Lib.hid ⟨hg.pi, hg.po⟩
  have HRUN : Hid (∀ L L2, Odr N L → Odr M L2 → rrunX M I2 O2 (nI L2) (scr T) = rrunX N I O (nI L) (scr T)) := Lib.hid (hg.rw.run (scr T))
  clear hg hml hd2 hga1 hga2
  dsimp only at hf
  go_upto_region 6 with fail
  obtain ⟨w8, e_n, zf, b⟩ := zmB w7 [.slice Bn kk dn, .slice Bi ni di, .slice Bo no do'] 25
  have hsz : w8.heap.size = w7.heap.size + 1 := e_n ▸ size_lit w7 _ rfl
  rw [e_n]
  clear e_n
  replace hn := hn.on b
  replace hs2 := hs2.on b
  replace hsE := hsE.on b
  replace z0 := z0.on b
  replace hf := hf.on b
  replace BW := Below.step BW b
  clear b
  obtain ⟨w9, e_n⟩ : ∃ w', w8.alloc (.cells #[.int .i64 c0, .int .i64 c1, .int .i64 c2, .int .i64 c3] 57) = w' := ⟨_, rfl⟩
  have b : Below w8.heap.size w8 w9 := e_n ▸ below_lit _ _
  have zr : Bx w9 (w7.heap.size + 1) [.int .i64 c0, .int .i64 c1, .int .i64 c2, .int .i64 c3] := e_n ▸ Bx.made_k w8 hsz #[.int .i64 c0, .int .i64 c1, .int .i64 c2, .int .i64 c3] 57
  rw [e_n]
  clear e_n
  replace hn := hn.on b
  replace hs2 := hs2.on b
  replace hsE := hsE.on b
  replace z0 := z0.on b
  replace hf := hf.on b
  replace zf := zf.on b
  replace BW := Below.step BW b
  clear b
  clear hsz
  obtain ⟨azr, ha⟩ : ∃ a, w7.heap.size + 1 = a := ⟨_, rfl⟩
  rw [ha] at zr ⊢
  clear ha
  obtain ⟨azf, ha⟩ : ∃ a, w7.heap.size = a := ⟨_, rfl⟩
  rw [ha] at zf ⊢
  clear ha
  have y1 : decide ((kk : Int) ≤ (nn : Int)) = true := by simp; omega
  go_upto_region 8 with fail
  replace BW := Lib.hid BW
  try dsimp only [List.append]
  refine LexG.region_plan LexG.below_ok 0 [0, 1, 2, 3, 4, 5, 6, 7, 8, 9, 10, 11, 12, 13, 14, 15, 16, 17, 18, 19] (by kernel_rfl) (by kernel_rfl) (by kernel_rfl) (by kernel_rfl) (by kernel_rfl) ?_
  dsimp only [LexG.pick, LexG.nth]
  have bd : Below w9.heap.size w9 w9.drew := (Below.refl _ _).drew
  replace hn := hn.on bd
  replace hs2 := hs2.on bd
  replace hsE := hsE.on bd
  replace z0 := z0.on bd
  replace hf := hf.on bd
  replace zf := zf.on bd
  replace BW := Lib.hid (Below.step BW.out bd)
  clear bd
  obtain ⟨w21, e_w⟩ : ∃ w', w9.drew = w' := ⟨_, rfl⟩
  rw [e_w] at hn hs2 hsE z0 hf zf BW ⊢
  clear e_w
  have lf0 := fun s : LexG.Wd (fun w w' => Below w.heap.size w w') w21 => (z0.on s.rel).n0
  have lf1 := fun s : LexG.Wd (fun w w' => Below w.heap.size w w') w21 => (z0.on s.rel).n1
  have lf2 := fun s : LexG.Wd (fun w w' => Below w.heap.size w w') w21 => (z0.on s.rel).n2
  have lf3 := fun s : LexG.Wd (fun w w' => Below w.heap.size w w') w21 => (zf.on s.rel).n0
  have lf4 := fun s : LexG.Wd (fun w w' => Below w.heap.size w w') w21 => (zf.on s.rel).n1
  have lf5 := fun s : LexG.Wd (fun w w' => Below w.heap.size w w') w21 => (zf.on s.rel).n2
  refine LexG.lex_plain 1 (by kernel_rfl) ?_
  dsimp only [List.take, List.drop]
  repeat go_big_quiet_step (fail)
  refine wpQuiet_nil ?_
  clear lf0 lf1 lf2 lf3 lf4 lf5
  refine LexG.lex_call (by kernel_rfl) (by kernel_rfl) (fun K hK => ?_)
  go_simp
  refine (check_as hf HD2.out).mono ?_
  rintro en w22 ⟨rfl, b⟩
  dsimp only
  refine hK _ _ b ?_
  clear hK K
  replace hn := hn.on b
  replace hs2 := hs2.on b
  replace hsE := hsE.on b
  replace z0 := z0.on b
  replace hf := hf.on b
  replace zf := zf.on b
  replace BW := Lib.hid (Below.step BW.out b)
  clear b
  have lf0 := fun s : LexG.Wd (fun w w' => Below w.heap.size w w') w22 => (z0.on s.rel).n0
  have lf1 := fun s : LexG.Wd (fun w w' => Below w.heap.size w w') w22 => (z0.on s.rel).n1
  have lf2 := fun s : LexG.Wd (fun w w' => Below w.heap.size w w') w22 => (z0.on s.rel).n2
  have lf3 := fun s : LexG.Wd (fun w w' => Below w.heap.size w w') w22 => (zf.on s.rel).n0
  have lf4 := fun s : LexG.Wd (fun w w' => Below w.heap.size w w') w22 => (zf.on s.rel).n1
  have lf5 := fun s : LexG.Wd (fun w w' => Below w.heap.size w w') w22 => (zf.on s.rel).n2
  refine LexG.lex_plain 14 (by kernel_rfl) ?_
  dsimp only [List.take, List.drop]
  repeat go_big_quiet_step (fail)
  refine wpQuiet_nil ?_
  clear lf0 lf1 lf2 lf3 lf4 lf5
  refine LexG.lex_call (by kernel_rfl) (by kernel_rfl) (fun K hK => ?_)
  go_simp
  refine (scriptE_as hsE hns).mono ?_
  rintro en w23 ⟨A8, c8, T8, rfl, hs8, hsnd, hscr, b⟩
  dsimp only
  refine hK _ _ b ?_
  clear hK K
  replace hn := hn.on b
  replace hs2 := hs2.on b
  replace hsE := hsE.on b
  replace z0 := z0.on b
  replace hf := hf.on b
  replace zf := zf.on b
  replace BW := Lib.hid (Below.step BW.out b)
  clear b
  replace hsnd := Lib.hid hsnd
  replace hscr := Lib.hid hscr
  have hs9 := (hs8.nb (Le.same hs8 hsE hsnd.out.symm hLE.out)).le (show 1000 ≤ 30000 by omega)
  rw [hscr.out] at hs9
  refine LexG.lex_call (by kernel_rfl) (by kernel_rfl) (fun K hK => ?_)
  go_simp
  refine (alike_as hn hf HBB.out HFB.out HF1.out.1 HF1.out.2 HF2.out.1 HF2.out.2 HFA.out HGA.out HPI.out.1 HPI.out.2 hs9 (by omega) HRUN.out).mono ?_
  rintro en w24 ⟨rfl, b⟩
  dsimp only
  refine hK _ _ b ?_
  clear hK K
  replace hn := hn.on b
  replace hs2 := hs2.on b
  replace hsE := hsE.on b
  replace z0 := z0.on b
  replace hf := hf.on b
  replace zf := zf.on b
  replace hs8 := hs8.on b
  replace BW := Lib.hid (Below.step BW.out b)
  clear b
  clear hs9
  have lf0 := fun s : LexG.Wd (fun w w' => Below w.heap.size w w') w24 => (z0.on s.rel).n0
  have lf1 := fun s : LexG.Wd (fun w w' => Below w.heap.size w w') w24 => (z0.on s.rel).n1
  have lf2 := fun s : LexG.Wd (fun w w' => Below w.heap.size w w') w24 => (z0.on s.rel).n2
  have lf3 := fun s : LexG.Wd (fun w w' => Below w.heap.size w w') w24 => (zf.on s.rel).n0
  have lf4 := fun s : LexG.Wd (fun w w' => Below w.heap.size w w') w24 => (zf.on s.rel).n1
  have lf5 := fun s : LexG.Wd (fun w w' => Below w.heap.size w w') w24 => (zf.on s.rel).n2
  refine LexG.lex_plain 2 (by kernel_rfl) ?_
  dsimp only [List.take, List.drop]
  repeat go_big_quiet_step (fail)
  refine wpQuiet_nil ?_
  clear lf0 lf1 lf2 lf3 lf4 lf5
  refine LexG.lex_nil ?_
  dsimp only [NoPanic]
  go_wp2_with fail
  go_ret
  exact ⟨rfl, BW.out⟩
end Go.Proofs.Ytcehklnonhalhaa
