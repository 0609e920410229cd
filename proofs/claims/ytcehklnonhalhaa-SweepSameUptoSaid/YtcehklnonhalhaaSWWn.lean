/-
  What the proofs of SweepTells and SweepCones and SweepSame need: Wn Wx.
-/
import Derived.Test.YtcehklnonhalhaaSWWl
import Derived.Test.YtcehklnonhalhaaSWWa
import Derived.Test.YtcehklnonhalhaaSWVg
import Derived.Test.YtcehklnonhalhaaSWWu
namespace Go.Proofs.Ytcehklnonhalhaa
open Go.RowKit
set_option linter.unusedVariables false
set_option maxRecDepth 4000

def I11 : List Pt := [⟨⟨#[97]⟩, [1]⟩]
def O11 : List Pt := [⟨⟨#[122]⟩, [3]⟩]
def L11 : List Nat := [0, 1, 2, 3]
def B11 : List Bool := [false, true, false, true]
def C11 : List Bool := [false, true, true, false]
theorem wr_N11 : wrongS N11 I11 O11 = 0 := by decide +kernel
theorem lv_N11 : levS N11 = some [0, 0, 1, 1] := by
  have h : All N11 (fun i => [0, 0, 1, 1].getD i 0) := by
    intro i hi
    have hi : i < 4 := hi
    rcases (show i = 0 ∨ i = 1 ∨ i = 2 ∨ i = 3 by omega) with rfl | rfl | rfl | rfl
    all_goals exact ⟨_, rfl, by decide, by decide⟩
  rw [levS_is h]
  rfl
theorem ls_N11 : levelS N11 I11 O11 = (some [0, 0, 1, 1], 0) := by
  unfold levelS
  rw [wr_N11, lv_N11]
  rfl
theorem or_N11 : ordO (some [0, 0, 1, 1]) = nI L11 := by decide +kernel
theorem lx_N11 : LvN N11 I11 O11 [0, 0, 1, 1] L11 := by
  obtain ⟨L, lx⟩ := lv_x ls_N11
  obtain rfl := nI_inj (lx.ord.symm.trans or_N11)
  exact lx
theorem b_N11 {B : List Bool} (hl : B.length = 4) (h : ∀ p, B.getD p false = true ↔ Rch N11 (fun p => (p : Int) ∈ comesS I11 ++ comesS O11) p) : B = B11 := (bits_of hl (fun p => (h p).trans (rch_N11 p))).trans rfl
theorem c_N11 {B : List Bool} (hl : B.length = 4) (h : ∀ p, B.getD p false = true ↔ Rch N11 (fun p => (p : Int) ∈ [((2 : Nat) : Int)]) p) : B = C11 := (bits_of hl (fun p => (h p).trans (rch_N11c p))).trans rfl
theorem kp_N11 : (kpL N11 B11 4).length = 2 := by kernel_rfl
theorem n_N11 : (kpL N11 B11 4).map (mvN (plS N11 B11 4 4)) = [⟨1, 0, 0, 0⟩, ⟨2, 0, 0, 0⟩] := by kernel_rfl
theorem i_N11 : I11.map (outF (plS N11 B11 4 4)) = [⟨⟨#[97]⟩, [0]⟩] := by kernel_rfl
theorem o_N11 : O11.map (outF (plS N11 B11 4 4)) = [⟨⟨#[122]⟩, [1]⟩] := by kernel_rfl
theorem cn_N11 : cnL C11 4 = [1, 2] := by kernel_rfl
set_option maxRecDepth 20000 in
set_option maxHeartbeats 8000000 in
theorem awake11_any (w : World) : Calls Try.prog 25 #[] w fun en w' => en = .returned (.bool true) ∧ Below w.heap.size w w' := by
  go_enter Try.func25, Try.ntmps25
  go_upto_region 2 with fail
  obtain ⟨w1, e_w1⟩ : ∃ w', w.alloc (.cells #[.int .i64 0, .int .i64 0, .int .i64 0, .int .i64 0, .int .i64 1, .int .i64 0, .int .i64 0, .int .i64 0, .int .i64 2, .int .i64 1, .int .i64 0, .int .i64 0, .int .i64 2, .int .i64 1, .int .i64 0, .int .i64 0] 43) = w' := ⟨_, rfl⟩
  have b : Below w.heap.size w w1 := e_w1 ▸ below_lit _ _
  have hs_w1 : w1.heap.size = w.heap.size + 1 := e_w1 ▸ size_lit w _ rfl
  have xn : Bx w1 w.heap.size [.int .i64 0, .int .i64 0, .int .i64 0, .int .i64 0, .int .i64 1, .int .i64 0, .int .i64 0, .int .i64 0, .int .i64 2, .int .i64 1, .int .i64 0, .int .i64 0, .int .i64 2, .int .i64 1, .int .i64 0, .int .i64 0] := e_w1 ▸ Bx.made_k w rfl #[.int .i64 0, .int .i64 0, .int .i64 0, .int .i64 0, .int .i64 1, .int .i64 0, .int .i64 0, .int .i64 0, .int .i64 2, .int .i64 1, .int .i64 0, .int .i64 0, .int .i64 2, .int .i64 1, .int .i64 0, .int .i64 0] 43
  rw [e_w1]
  clear e_w1
  have BW := b
  clear b
  obtain ⟨w2, e_w2⟩ : ∃ w', w1.alloc (.cells #[.int .i64 1] 3) = w' := ⟨_, rfl⟩
  have b : Below w1.heap.size w1 w2 := e_w2 ▸ below_lit _ _
  have hs_w2 : w2.heap.size = (w.heap.size + 1) + 1 := e_w2 ▸ size_lit w1 _ hs_w1
  have xa : Bx w2 (w.heap.size + 1) [.int .i64 1] := e_w2 ▸ Bx.made_k w1 hs_w1 #[.int .i64 1] 3
  rw [e_w2]
  clear e_w2
  replace xn := xn.on b
  replace BW := Below.step BW b
  clear b
  obtain ⟨w3, e_w3⟩ : ∃ w', w2.alloc (.cells #[.string ⟨#[97]⟩, .slice (some ⟨(w.heap.size + 1), 0, none⟩) 1 1] 41) = w' := ⟨_, rfl⟩
  have b : Below w2.heap.size w2 w3 := e_w3 ▸ below_lit _ _
  have hs_w3 : w3.heap.size = ((w.heap.size + 1) + 1) + 1 := e_w3 ▸ size_lit w2 _ hs_w2
  have xi : Bx w3 ((w.heap.size + 1) + 1) [.string ⟨#[97]⟩, .slice (some ⟨(w.heap.size + 1), 0, none⟩) 1 1] := e_w3 ▸ Bx.made_k w2 hs_w2 #[.string ⟨#[97]⟩, .slice (some ⟨(w.heap.size + 1), 0, none⟩) 1 1] 41
  rw [e_w3]
  clear e_w3
  replace xn := xn.on b
  replace xa := xa.on b
  replace BW := Below.step BW b
  clear b
  obtain ⟨w4, e_w4⟩ : ∃ w', w3.alloc (.cells #[.int .i64 3] 3) = w' := ⟨_, rfl⟩
  have b : Below w3.heap.size w3 w4 := e_w4 ▸ below_lit _ _
  have hs_w4 : w4.heap.size = (((w.heap.size + 1) + 1) + 1) + 1 := e_w4 ▸ size_lit w3 _ hs_w3
  have xb : Bx w4 (((w.heap.size + 1) + 1) + 1) [.int .i64 3] := e_w4 ▸ Bx.made_k w3 hs_w3 #[.int .i64 3] 3
  rw [e_w4]
  clear e_w4
  replace xn := xn.on b
  replace xa := xa.on b
  replace xi := xi.on b
  replace BW := Below.step BW b
  clear b
  obtain ⟨w5, e_w5⟩ : ∃ w', w4.alloc (.cells #[.string ⟨#[122]⟩, .slice (some ⟨(((w.heap.size + 1) + 1) + 1), 0, none⟩) 1 1] 41) = w' := ⟨_, rfl⟩
  have b : Below w4.heap.size w4 w5 := e_w5 ▸ below_lit _ _
  have hs_w5 : w5.heap.size = ((((w.heap.size + 1) + 1) + 1) + 1) + 1 := e_w5 ▸ size_lit w4 _ hs_w4
  have xo : Bx w5 ((((w.heap.size + 1) + 1) + 1) + 1) [.string ⟨#[122]⟩, .slice (some ⟨(((w.heap.size + 1) + 1) + 1), 0, none⟩) 1 1] := e_w5 ▸ Bx.made_k w4 hs_w4 #[.string ⟨#[122]⟩, .slice (some ⟨(((w.heap.size + 1) + 1) + 1), 0, none⟩) 1 1] 41
  rw [e_w5]
  clear e_w5
  replace xn := xn.on b
  replace xa := xa.on b
  replace xi := xi.on b
  replace xb := xb.on b
  replace BW := Below.step BW b
  clear b
  obtain ⟨w6, e_w6⟩ : ∃ w', w5.alloc (.cells #[.slice (some ⟨w.heap.size, 0, none⟩) 4 4, .slice (some ⟨((w.heap.size + 1) + 1), 0, none⟩) 1 1, .slice (some ⟨((((w.heap.size + 1) + 1) + 1) + 1), 0, none⟩) 1 1] 25) = w' := ⟨_, rfl⟩
  have b : Below w5.heap.size w5 w6 := e_w6 ▸ below_lit _ _
  have hs_w6 : w6.heap.size = (((((w.heap.size + 1) + 1) + 1) + 1) + 1) + 1 := e_w6 ▸ size_lit w5 _ hs_w5
  have zn : Bx w6 (((((w.heap.size + 1) + 1) + 1) + 1) + 1) [.slice (some ⟨w.heap.size, 0, none⟩) 4 4, .slice (some ⟨((w.heap.size + 1) + 1), 0, none⟩) 1 1, .slice (some ⟨((((w.heap.size + 1) + 1) + 1) + 1), 0, none⟩) 1 1] := e_w6 ▸ Bx.made_k w5 hs_w5 #[.slice (some ⟨w.heap.size, 0, none⟩) 4 4, .slice (some ⟨((w.heap.size + 1) + 1), 0, none⟩) 1 1, .slice (some ⟨((((w.heap.size + 1) + 1) + 1) + 1), 0, none⟩) 1 1] 25
  rw [e_w6]
  clear e_w6
  replace xn := xn.on b
  replace xa := xa.on b
  replace xi := xi.on b
  replace xb := xb.on b
  replace xo := xo.on b
  replace BW := Below.step BW b
  clear b
  have h : Nt w6 (some ⟨w.heap.size, 0, none⟩) 4 4 (some ⟨((w.heap.size + 1) + 1), 0, none⟩) 1 1 (some ⟨((((w.heap.size + 1) + 1) + 1) + 1), 0, none⟩) 1 1 N11 I11 O11 := ⟨Bx.ns (L := N11) xn, xi.ps1 (Bx.is (L := [1]) xa) ⟨by omega, fun e => by cases e⟩ (by unfold maxLen; omega), xo.ps1 (Bx.is (L := [3]) xb) ⟨by omega, fun e => by cases e⟩ (by unfold maxLen; omega), Sw.one _ _ (by omega), Sw.one _ _ (by omega), by omega, by omega, fun p hp => by simp [I11, O11] at hp; rcases hp with rfl | rfl <;> simp⟩
  clear xn xa xi xb xo
  clear hs_w1 hs_w2 hs_w3 hs_w4 hs_w5 hs_w6
  obtain ⟨a5, ha5⟩ : ∃ a, (((((w.heap.size + 1) + 1) + 1) + 1) + 1) = a := ⟨_, rfl⟩
  rw [ha5] at zn ⊢
  clear ha5
  obtain ⟨a4, ha4⟩ : ∃ a, ((((w.heap.size + 1) + 1) + 1) + 1) = a := ⟨_, rfl⟩
  rw [ha4] at h zn ⊢
  clear ha4
  obtain ⟨a3, ha3⟩ : ∃ a, (((w.heap.size + 1) + 1) + 1) = a := ⟨_, rfl⟩
  rw [ha3] at ⊢
  clear ha3
  obtain ⟨a2, ha2⟩ : ∃ a, ((w.heap.size + 1) + 1) = a := ⟨_, rfl⟩
  rw [ha2] at h zn ⊢
  clear ha2
  obtain ⟨a1, ha1⟩ : ∃ a, (w.heap.size + 1) = a := ⟨_, rfl⟩
  rw [ha1] at ⊢
  clear ha1
  have znc0 := zn.2 0 _ rfl
  have znc1 := zn.2 1 _ rfl
  have znc2 := zn.2 2 _ rfl
  go_wp2_with fail
  refine (ssweep_yes h (Sw.one _ _ (by omega)) (by omega) (by omega) (fun p hp => by simp [I11, O11] at hp; rcases hp with rfl | rfl <;> simp) lx_N11).mono ?_
  rintro en w7 ⟨⟨B, Bk, k, ck, Bi, di, Bo, do', rfl, hlB, hrB, hkl, hf, _⟩, b⟩
  clear znc0 znc1 znc2
  replace zn := zn.on b
  replace h := h.on b
  replace BW := Below.step BW b
  clear b
  obtain rfl := b_N11 hlB hrB
  obtain rfl : 2 = k := kp_N11.symm.trans hkl
  rw [n_N11, i_N11, o_N11] at hf
  clear hlB hrB hkl
  go_upto_region 3 with fail
  obtain ⟨w8, e_w8⟩ : ∃ w', w7.alloc (.cells #[.slice Bk 2 ck, .slice Bi 1 di, .slice Bo 1 do'] 25) = w' := ⟨_, rfl⟩
  have b : Below w7.heap.size w7 w8 := e_w8 ▸ below_lit _ _
  have hs_w8 : w8.heap.size = w7.heap.size + 1 := e_w8 ▸ size_lit w7 _ rfl
  have zf : Bx w8 w7.heap.size [.slice Bk 2 ck, .slice Bi 1 di, .slice Bo 1 do'] := e_w8 ▸ Bx.made_k w7 rfl #[.slice Bk 2 ck, .slice Bi 1 di, .slice Bo 1 do'] 25
  rw [e_w8]
  clear e_w8
  replace zn := zn.on b
  replace h := h.on b
  replace hf := hf.on b
  replace BW := Below.step BW b
  clear b
  clear hs_w8
  have znc0 := zn.2 0 _ rfl
  have znc1 := zn.2 1 _ rfl
  have znc2 := zn.2 2 _ rfl
  go_wp2_with fail
  refine (scount_yes h (by omega) (by omega) (fun p hp => by simp [I11, O11] at hp; rcases hp with rfl | rfl <;> simp) lx_N11).mono ?_
  rintro en w9 ⟨⟨g, B2, rfl, hct, _⟩, b⟩
  clear znc0 znc1 znc2
  replace zn := zn.on b
  replace h := h.on b
  replace hf := hf.on b
  replace zf := zf.on b
  replace BW := Below.step BW b
  clear b
  obtain rfl := b_N11 hct.2.1 hct.2.2
  have zb : Bx w9 g [.bool false, .bool true, .bool false, .bool true] := ⟨hct.1.lt, fun i u hu => (hct.1.cell i).trans hu⟩
  clear hct
  have znc0 := zn.2 0 _ rfl
  have znc1 := zn.2 1 _ rfl
  have znc2 := zn.2 2 _ rfl
  go_wp2_with fail
  refine (scone_yes h lx_N11 (k := 2) (by omega)).mono ?_
  rintro en w10 ⟨⟨Ac, mc, cc, C, rfl, _, his, _, hlC, hrC⟩, b⟩
  clear znc0 znc1 znc2
  replace zn := zn.on b
  replace h := h.on b
  replace hf := hf.on b
  replace zf := zf.on b
  replace zb := zb.on b
  replace BW := Below.step BW b
  clear b
  obtain rfl := c_N11 hlC hrC
  rw [cn_N11] at his
  obtain rfl : 2 = mc := his.1
  clear hlC hrC
  have znc0 := zn.2 0 _ rfl
  have znc1 := zn.2 1 _ rfl
  have znc2 := zn.2 2 _ rfl
  go_wp2_with fail
  refine (scone_out h lx_N11 4 (.inr (by omega))).mono ?_
  rintro en w11 ⟨rfl, b⟩
  clear znc0 znc1 znc2
  replace zn := zn.on b
  replace h := h.on b
  replace hf := hf.on b
  replace zf := zf.on b
  replace zb := zb.on b
  replace his := his.on b
  replace BW := Below.step BW b
  clear b
  clear h zn
  go_wp2_with fail
  obtain ⟨w12, e_w12⟩ : ∃ w', w11.alloc (.cells #[.int .i64 9, .int .i64 0, .int .i64 0, .int .i64 0] 43) = w' := ⟨_, rfl⟩
  have b : Below w11.heap.size w11 w12 := e_w12 ▸ below_lit _ _
  have hs_w12 : w12.heap.size = w11.heap.size + 1 := e_w12 ▸ size_lit w11 _ rfl
  have xl : Bx w12 w11.heap.size [.int .i64 9, .int .i64 0, .int .i64 0, .int .i64 0] := e_w12 ▸ Bx.made_k w11 rfl #[.int .i64 9, .int .i64 0, .int .i64 0, .int .i64 0] 43
  rw [e_w12]
  clear e_w12
  replace hf := hf.on b
  replace zf := zf.on b
  replace zb := zb.on b
  replace his := his.on b
  replace BW := Below.step BW b
  clear b
  have h9 : Nt w12 (some ⟨w11.heap.size, 0, none⟩) 1 1 none 0 0 none 0 0 [⟨9, 0, 0, 0⟩] [] [] := ⟨Bx.ns (L := [⟨9, 0, 0, 0⟩]) xl, Ps.nil_, Ps.nil_, Sw.nil_, Sw.nil_, by omega, by omega, fun p hp => by cases hp⟩
  clear xl
  clear hs_w12
  refine (ssweep_no h9 ls_B9 (by decide)).mono ?_
  rintro en w13 ⟨rfl, b⟩
  replace hf := hf.on b
  replace zf := zf.on b
  replace zb := zb.on b
  replace his := his.on b
  replace BW := Below.step BW b
  clear b
  clear h9
  have zf2 := zf.on (below_lit w13 (.cells #[.slice none 0 0, .slice none 0 0, .slice none 0 0] 25))
  have zf2c0 := zf2.2 0 _ rfl
  have zf2c1 := zf2.2 1 _ rfl
  have zf2c2 := zf2.2 2 _ rfl
  go_wp2_with fail
  clear zf2
  clear zf2c0 zf2c1 zf2c2
  obtain ⟨w14, e_w14⟩ : ∃ w', w13.alloc (.cells #[.slice none 0 0, .slice none 0 0, .slice none 0 0] 25) = w' := ⟨_, rfl⟩
  have b : Below w13.heap.size w13 w14 := e_w14 ▸ below_lit _ _
  have hs_w14 : w14.heap.size = w13.heap.size + 1 := e_w14 ▸ size_lit w13 _ rfl
  have zx : Bx w14 w13.heap.size [.slice none 0 0, .slice none 0 0, .slice none 0 0] := e_w14 ▸ Bx.made_k w13 rfl #[.slice none 0 0, .slice none 0 0, .slice none 0 0] 25
  rw [e_w14]
  clear e_w14
  replace hf := hf.on b
  replace zf := zf.on b
  replace zb := zb.on b
  replace his := his.on b
  replace BW := Below.step BW b
  clear b
  clear zx
  obtain ⟨w15, e_w15⟩ : ∃ w', w14.alloc (.cells #[.int .i64 1, .int .i64 0, .int .i64 0, .int .i64 0, .int .i64 2, .int .i64 0, .int .i64 0, .int .i64 0] 43) = w' := ⟨_, rfl⟩
  have b : Below w14.heap.size w14 w15 := e_w15 ▸ below_lit _ _
  have hs_w15 : w15.heap.size = (w13.heap.size + 1) + 1 := e_w15 ▸ size_lit w14 _ hs_w14
  have xn : Bx w15 (w13.heap.size + 1) [.int .i64 1, .int .i64 0, .int .i64 0, .int .i64 0, .int .i64 2, .int .i64 0, .int .i64 0, .int .i64 0] := e_w15 ▸ Bx.made_k w14 hs_w14 #[.int .i64 1, .int .i64 0, .int .i64 0, .int .i64 0, .int .i64 2, .int .i64 0, .int .i64 0, .int .i64 0] 43
  rw [e_w15]
  clear e_w15
  replace hf := hf.on b
  replace zf := zf.on b
  replace zb := zb.on b
  replace his := his.on b
  replace BW := Below.step BW b
  clear b
  obtain ⟨w16, e_w16⟩ : ∃ w', w15.alloc (.cells #[.int .i64 0] 3) = w' := ⟨_, rfl⟩
  have b : Below w15.heap.size w15 w16 := e_w16 ▸ below_lit _ _
  have hs_w16 : w16.heap.size = ((w13.heap.size + 1) + 1) + 1 := e_w16 ▸ size_lit w15 _ hs_w15
  have xa : Bx w16 ((w13.heap.size + 1) + 1) [.int .i64 0] := e_w16 ▸ Bx.made_k w15 hs_w15 #[.int .i64 0] 3
  rw [e_w16]
  clear e_w16
  replace hf := hf.on b
  replace zf := zf.on b
  replace zb := zb.on b
  replace his := his.on b
  replace xn := xn.on b
  replace BW := Below.step BW b
  clear b
  obtain ⟨w17, e_w17⟩ : ∃ w', w16.alloc (.cells #[.string ⟨#[97]⟩, .slice (some ⟨((w13.heap.size + 1) + 1), 0, none⟩) 1 1] 41) = w' := ⟨_, rfl⟩
  have b : Below w16.heap.size w16 w17 := e_w17 ▸ below_lit _ _
  have hs_w17 : w17.heap.size = (((w13.heap.size + 1) + 1) + 1) + 1 := e_w17 ▸ size_lit w16 _ hs_w16
  have xi : Bx w17 (((w13.heap.size + 1) + 1) + 1) [.string ⟨#[97]⟩, .slice (some ⟨((w13.heap.size + 1) + 1), 0, none⟩) 1 1] := e_w17 ▸ Bx.made_k w16 hs_w16 #[.string ⟨#[97]⟩, .slice (some ⟨((w13.heap.size + 1) + 1), 0, none⟩) 1 1] 41
  rw [e_w17]
  clear e_w17
  replace hf := hf.on b
  replace zf := zf.on b
  replace zb := zb.on b
  replace his := his.on b
  replace xn := xn.on b
  replace xa := xa.on b
  replace BW := Below.step BW b
  clear b
  obtain ⟨w18, e_w18⟩ : ∃ w', w17.alloc (.cells #[.int .i64 1] 3) = w' := ⟨_, rfl⟩
  have b : Below w17.heap.size w17 w18 := e_w18 ▸ below_lit _ _
  have hs_w18 : w18.heap.size = ((((w13.heap.size + 1) + 1) + 1) + 1) + 1 := e_w18 ▸ size_lit w17 _ hs_w17
  have xb : Bx w18 ((((w13.heap.size + 1) + 1) + 1) + 1) [.int .i64 1] := e_w18 ▸ Bx.made_k w17 hs_w17 #[.int .i64 1] 3
  rw [e_w18]
  clear e_w18
  replace hf := hf.on b
  replace zf := zf.on b
  replace zb := zb.on b
  replace his := his.on b
  replace xn := xn.on b
  replace xa := xa.on b
  replace xi := xi.on b
  replace BW := Below.step BW b
  clear b
  obtain ⟨w19, e_w19⟩ : ∃ w', w18.alloc (.cells #[.string ⟨#[122]⟩, .slice (some ⟨((((w13.heap.size + 1) + 1) + 1) + 1), 0, none⟩) 1 1] 41) = w' := ⟨_, rfl⟩
  have b : Below w18.heap.size w18 w19 := e_w19 ▸ below_lit _ _
  have hs_w19 : w19.heap.size = (((((w13.heap.size + 1) + 1) + 1) + 1) + 1) + 1 := e_w19 ▸ size_lit w18 _ hs_w18
  have xo : Bx w19 (((((w13.heap.size + 1) + 1) + 1) + 1) + 1) [.string ⟨#[122]⟩, .slice (some ⟨((((w13.heap.size + 1) + 1) + 1) + 1), 0, none⟩) 1 1] := e_w19 ▸ Bx.made_k w18 hs_w18 #[.string ⟨#[122]⟩, .slice (some ⟨((((w13.heap.size + 1) + 1) + 1) + 1), 0, none⟩) 1 1] 41
  rw [e_w19]
  clear e_w19
  replace hf := hf.on b
  replace zf := zf.on b
  replace zb := zb.on b
  replace his := his.on b
  replace xn := xn.on b
  replace xa := xa.on b
  replace xi := xi.on b
  replace xb := xb.on b
  replace BW := Below.step BW b
  clear b
  have h2 : Nt w19 (some ⟨(w13.heap.size + 1), 0, none⟩) 2 2 (some ⟨(((w13.heap.size + 1) + 1) + 1), 0, none⟩) 1 1 (some ⟨(((((w13.heap.size + 1) + 1) + 1) + 1) + 1), 0, none⟩) 1 1 [⟨1, 0, 0, 0⟩, ⟨2, 0, 0, 0⟩] [⟨⟨#[97]⟩, [0]⟩] [⟨⟨#[122]⟩, [1]⟩] := ⟨Bx.ns (L := [⟨1, 0, 0, 0⟩, ⟨2, 0, 0, 0⟩]) xn, xi.ps1 (Bx.is (L := [0]) xa) ⟨by omega, fun e => by cases e⟩ (by unfold maxLen; omega), xo.ps1 (Bx.is (L := [1]) xb) ⟨by omega, fun e => by cases e⟩ (by unfold maxLen; omega), Sw.one _ _ (by omega), Sw.one _ _ (by omega), by omega, by omega, fun p hp => by simp at hp; rcases hp with rfl | rfl <;> simp⟩
  clear xn xa xi xb xo
  clear hs_w19
  refine (rsame_as hf h2 true (by decide +kernel)).mono ?_
  rintro en w20 ⟨rfl, b⟩
  replace hf := hf.on b
  replace zf := zf.on b
  replace zb := zb.on b
  replace his := his.on b
  replace BW := Below.step BW b
  clear b
  clear h2
  clear hf
  have zbc0 := zb.2 0 _ rfl
  have zbc1 := zb.2 1 _ rfl
  have zbc2 := zb.2 2 _ rfl
  have zbc3 := zb.2 3 _ rfl
  go_wp2_with fail
  clear zbc0 zbc1 zbc2 zbc3
  obtain ⟨w21, e_w21⟩ : ∃ w', w20.alloc (.cells #[.int .i64 1, .int .i64 2] 3) = w' := ⟨_, rfl⟩
  have b : Below w20.heap.size w20 w21 := e_w21 ▸ below_lit _ _
  have hs_w21 : w21.heap.size = w20.heap.size + 1 := e_w21 ▸ size_lit w20 _ rfl
  have li : Bx w21 w20.heap.size [.int .i64 1, .int .i64 2] := e_w21 ▸ Bx.made_k w20 rfl #[.int .i64 1, .int .i64 2] 3
  rw [e_w21]
  clear e_w21
  replace zf := zf.on b
  replace zb := zb.on b
  replace his := his.on b
  replace BW := Below.step BW b
  clear b
  clear hs_w21
  refine (rints_as his (Bx.is (L := [1, 2]) li) (by omega) true (by rfl)).mono ?_
  rintro en w22 ⟨rfl, b⟩
  replace zf := zf.on b
  replace zb := zb.on b
  replace his := his.on b
  replace li := li.on b
  replace BW := Below.step BW b
  clear b
  clear li his
  go_wp2_with fail
  go_ret
  exact ⟨rfl, BW⟩
end Go.Proofs.Ytcehklnonhalhaa
namespace Go.Proofs.Ytcehklnonhalhaa
open Go.RowKit
set_option linter.unusedVariables false
set_option maxRecDepth 4000

theorem comes_len11 {L : List Pt} {m n : Nat} (hm : L.length ≤ m) (h : ∀ p ∈ L, p.bits.length ≤ n) (k : Nat) : (comesS (L.take k)).length ≤ m * n := by
  unfold comesS
  rw [List.length_flatMap]
  have key : ∀ L : List Pt, (∀ p ∈ L, p.bits.length ≤ n) → ((L.map fun p => p.bits.length).sum) ≤ L.length * n := by
    intro L
    induction L with
    | nil => intro _; simp
    | cons p L ih =>
      intro h
      rw [List.map_cons, List.sum_cons, List.length_cons, Nat.add_mul, Nat.one_mul]
      have := ih fun q hq => h q (List.mem_cons_of_mem _ hq)
      have h2 := h p (List.mem_cons_self ..)
      omega
  have h1 := key (L.take k) fun p hp => h p (List.mem_of_mem_take hp)
  have h2 : (L.take k).length ≤ m := by rw [List.length_take]; omega
  exact Nat.le_trans h1 (Nat.mul_le_mul_right n h2)
theorem sameL_me (L : List Pt) : sameL L L = true := by
  unfold sameL
  rw [beq_self_eq_true, Bool.true_and, List.all_eq_true]
  intro i hi
  have hi := List.mem_range.1 hi
  unfold sameAt
  rw [List.getElem?_eq_getElem hi]
  unfold sameP
  simp
theorem sameS_me (N : List Nd) (I O : List Pt) : sameS N N I I O O = true := by
  unfold sameS
  rw [sameL_me, sameL_me]
  simp
/-- a place's cone, or why it isn't told. -/
def CoX (N : List Nd) (nn : Nat) (k : Int) (Lc : List Int) (f : Int) : Prop := (∃ q : Nat, k = (q : Int) ∧ q < nn ∧ f = 0 ∧ ∃ B : List Bool, Lc = cnL B nn ∧ B.length = nn ∧ ∀ p, B.getD p false = true ↔ Rch N (fun p => (p : Int) ∈ [(q : Int)]) p) ∨ ((k < 0 ∨ (nn : Int) ≤ k) ∧ f = 3 ∧ Lc = [])
theorem CoX.one {N : List Nd} {nn : Nat} {k : Int} {L1 L2 : List Int} {f1 f2 : Int} (h : CoX N nn k L1 f1) (g : CoX N nn k L2 f2) : L1 = L2 ∧ f1 = f2 := by
  rcases h with ⟨q, rfl, hq, rfl, B, rfl, hl, hb⟩ | ⟨hk, rfl, rfl⟩
  · rcases g with ⟨q', e, hq', rfl, B', rfl, hl', hb'⟩ | ⟨hk, rfl, rfl⟩
    · obtain rfl : q = q' := by omega
      rw [bits_eq (hl.trans hl'.symm) fun p => (hb p).trans (hb' p).symm]
      exact ⟨rfl, rfl⟩
    · omega
  · rcases g with ⟨q', rfl, hq', rfl, B', rfl, hl', hb'⟩ | ⟨hk, rfl, rfl⟩
    · omega
    · exact ⟨rfl, rfl⟩
def CoT (N : List Nd) (nn : Nat) (k : Int) (en : Ending) (w' : World) : Prop := ∃ (A : Option Addr) (m c : Nat) (Lc : List Int) (f : Int), en = .returned (.tuple #[.slice A m c, .int .i64 f]) ∧ Is w' A m Lc ∧ m ≤ nn ∧ Hid (CoX N nn k Lc f)
section
variable {An Ai Ao : Option Addr} {nn cn ni ci no co : Nat} {N : List Nd} {I O : List Pt} {w : World}
theorem scone_any (h : Nt w An nn cn Ai ni ci Ao no co N I O) {dd L : List Nat} (lx : LvN N I O dd L) (k : Int) :
    Calls Try.prog 30 #[.agg #[.slice An nn cn, .slice Ai ni ci, .slice Ao no co], .int .i64 k] w fun en w' => CoT N nn k en w' ∧ Below w.heap.size w w' := by
  by_cases hk : k < 0 ∨ (nn : Int) ≤ k
  · refine (scone_out h lx k hk).mono ?_
    rintro en w' ⟨rfl, b⟩
    exact ⟨⟨none, 0, 0, [], 3, rfl, ⟨rfl, fun k x hx => by cases hx⟩, Nat.zero_le _, Lib.hid (.inr ⟨hk, rfl, rfl⟩)⟩, b⟩
  · obtain ⟨q, rfl⟩ : ∃ q : Nat, k = (q : Int) := ⟨k.toNat, by omega⟩
    refine (scone_yes h lx (k := q) (by omega)).mono ?_
    rintro en w' ⟨⟨A, m, c, B, rfl, _, hi, _, hl, hb⟩, b⟩
    exact ⟨⟨A, m, c, _, 0, rfl, hi, by rw [← hi.1]; exact cnL_len B nn, Lib.hid (.inl ⟨q, rfl, by omega, rfl, B, rfl, hl, hb⟩)⟩, b⟩
theorem rcone_any (h : Nt w An nn cn Ai ni ci Ao no co N I O) (hm : Nm I O) {dd L : List Nat} (lx : LvN N I O dd L) (k : Int) :
    Calls Try.prog 31 #[.agg #[.slice An nn cn, .slice Ai ni ci, .slice Ao no co], .int .i64 k] w fun en w' => CoT N nn k en w' ∧ Below w.heap.size w w' := by
  by_cases hk : k < 0 ∨ (nn : Int) ≤ k
  · refine (rcone_out h hm lx k hk).mono ?_
    rintro en w' ⟨rfl, b⟩
    exact ⟨⟨none, 0, 0, [], 3, rfl, ⟨rfl, fun k x hx => by cases hx⟩, Nat.zero_le _, Lib.hid (.inr ⟨hk, rfl, rfl⟩)⟩, b⟩
  · obtain ⟨q, rfl⟩ : ∃ q : Nat, k = (q : Int) := ⟨k.toNat, by omega⟩
    refine (rcone_yes h hm lx (k := q) (by omega)).mono ?_
    rintro en w' ⟨⟨A, m, c, B, rfl, _, hi, _, hl, hb⟩, b⟩
    exact ⟨⟨A, m, c, _, 0, rfl, hi, by rw [← hi.1]; exact cnL_len B nn, Lib.hid (.inl ⟨q, rfl, by omega, rfl, B, rfl, hl, hb⟩)⟩, b⟩
end
set_option maxRecDepth 20000 in
set_option maxHeartbeats 8000000 in
theorem sweepTells_as {An Ai Ao : Option Addr} {nn cn ni ci no co : Nat} {N : List Nd} {I O : List Pt} {w : World} (h : NetIn w An nn cn Ai ni ci Ao no co N I O) (k : Int) :
    Calls Try.prog 7 #[.agg #[.slice An nn cn, .slice Ai ni ci, .slice Ao no co], .int .i64 k] w fun en w' => en = .returned (.bool true) ∧ Below w.heap.size w w' := by
  go_enter Try.func7, Try.ntmps7
  go_upto_region 1 with fail
  obtain ⟨w1, e_w1⟩ : ∃ w', w.alloc (.cells #[.slice An nn cn, .slice Ai ni ci, .slice Ao no co] 25) = w' := ⟨_, rfl⟩
  have z0 : Bx w1 w.heap.size [.slice An nn cn, .slice Ai ni ci, .slice Ao no co] := e_w1 ▸ Bx.made_k w rfl #[.slice An nn cn, .slice Ai ni ci, .slice Ao no co] 25
  have BW : Below w.heap.size w w1 := e_w1 ▸ below_lit _ _
  rw [e_w1]
  clear e_w1
  replace h := h.on BW
  go_wp2_with fail
  refine (awake11_any _).mono ?_
  rintro en w2 ⟨rfl, b⟩
  replace h := h.on b
  replace z0 := z0.on b
  replace BW := Below.step BW b
  clear b
  obtain ⟨v, hv⟩ : ∃ v, largeS nn ni no I O 60 = v := ⟨_, rfl⟩
  have HV := Lib.hid hv
  clear hv
  have c0 := z0.2 0 _ rfl; have c1 := z0.2 1 _ rfl; have c2 := z0.2 2 _ rfl
  go_wp2_with fail
  refine (h.large v HV.out).mono ?_
  rintro en w3 ⟨rfl, b⟩
  clear c0 c1 c2
  replace h := h.on b
  replace z0 := z0.on b
  replace BW := Below.step BW b
  clear b
  cases v
  case true =>
    go_wp2_with fail
    go_ret
    exact ⟨rfl, BW⟩
  obtain ⟨hn, hn60, hi66, ho66, hbb⟩ := h.nt HV.out
  have HB4 : Hid (∀ p ∈ I ++ O, p.bits.length ≤ 4000) := Lib.hid fun p hp => (hbb p hp).1
  have HM : Hid (Nm I O) := Lib.hid ⟨fun p hp => by have := (hbb p hp).2; omega, fun k => by have := comes_len11 (m := 66) (n := 4000) (by rw [hn.i.1]; exact hi66) (fun p hp => (hbb p (List.mem_append_left _ hp)).1) k; omega⟩
  have sn := h.sn
  clear h hbb HV
  obtain ⟨d, e, hl⟩ : ∃ d e, levelS N I O = (d, e) := ⟨_, _, rfl⟩
  have c0 := z0.2 0 _ rfl; have c1 := z0.2 1 _ rfl; have c2 := z0.2 2 _ rfl
  by_cases he : e = 0
  case neg =>
    have d0 : (e != 0) = true := by simpa using he
    have HL := Lib.hid hl
    have e2 : (e != e) = false := by simp
    clear hl he
    go_upto_region 6 with (go_at_call 26; (with_reducible refine (ssweep_no hn HL.out d0).mono ?_); (rintro en w7 ⟨rfl, b⟩; clear c0 c1 c2; replace hn := hn.on b; replace z0 := z0.on b; replace BW := Below.step BW b; clear b))
    obtain ⟨w8, e_w8⟩ : ∃ w', w7.alloc (.cells #[.slice none 0 0, .slice none 0 0, .slice none 0 0] 25) = w' := ⟨_, rfl⟩
    have zf : Bx w8 w7.heap.size [.slice none 0 0, .slice none 0 0, .slice none 0 0] := e_w8 ▸ Bx.made_k w7 rfl #[.slice none 0 0, .slice none 0 0, .slice none 0 0] 25
    have b : Below w7.heap.size w7 w8 := e_w8 ▸ below_lit _ _
    rw [e_w8]
    replace hn := hn.on b
    replace z0 := z0.on b
    replace BW := Below.step BW b
    obtain ⟨s5, hs5⟩ : ∃ s5, w7.heap.size = s5 := ⟨_, rfl⟩
    rw [hs5] at zf ⊢
    clear e_w8 b hs5
    have c0 := z0.2 0 _ rfl; have c1 := z0.2 1 _ rfl; have c2 := z0.2 2 _ rfl
    go_upto_region 7 with (go_at_call 27; (with_reducible refine (rsweep_no hn HM.out HL.out d0).mono ?_); (rintro en w9 ⟨rfl, b⟩; clear c0 c1 c2; replace hn := hn.on b; replace zf := zf.on b; replace z0 := z0.on b; replace BW := Below.step BW b; clear b))
    obtain ⟨w10, e_w10⟩ : ∃ w', w9.alloc (.cells #[.slice none 0 0, .slice none 0 0, .slice none 0 0] 25) = w' := ⟨_, rfl⟩
    have zg : Bx w10 w9.heap.size [.slice none 0 0, .slice none 0 0, .slice none 0 0] := e_w10 ▸ Bx.made_k w9 rfl #[.slice none 0 0, .slice none 0 0, .slice none 0 0] 25
    have b : Below w9.heap.size w9 w10 := e_w10 ▸ below_lit _ _
    rw [e_w10]
    replace hn := hn.on b
    replace zf := zf.on b
    replace z0 := z0.on b
    replace BW := Below.step BW b
    obtain ⟨s8, hs8⟩ : ∃ s8, w9.heap.size = s8 := ⟨_, rfl⟩
    rw [hs8] at zg ⊢
    clear e_w10 b hs8
    have c0 := z0.2 0 _ rfl; have c1 := z0.2 1 _ rfl; have c2 := z0.2 2 _ rfl
    go_wp2_with fail
    refine (scount_no hn HL.out d0).mono ?_
    rintro en w11 ⟨rfl, b⟩
    clear c0 c1 c2
    replace hn := hn.on b
    replace zf := zf.on b
    replace zg := zg.on b
    replace z0 := z0.on b
    replace BW := Below.step BW b
    clear b
    have c0 := z0.2 0 _ rfl; have c1 := z0.2 1 _ rfl; have c2 := z0.2 2 _ rfl
    go_wp2_with fail
    refine (rcount_no hn HM.out HL.out d0).mono ?_
    rintro en w12 ⟨rfl, b⟩
    clear c0 c1 c2
    replace hn := hn.on b
    replace zf := zf.on b
    replace zg := zg.on b
    replace z0 := z0.on b
    replace BW := Below.step BW b
    clear b
    have c0 := z0.2 0 _ rfl; have c1 := z0.2 1 _ rfl; have c2 := z0.2 2 _ rfl
    go_wp2_with fail
    refine (scone_no hn HL.out d0 k).mono ?_
    rintro en w13 ⟨rfl, b⟩
    clear c0 c1 c2
    replace hn := hn.on b
    replace zf := zf.on b
    replace zg := zg.on b
    replace z0 := z0.on b
    replace BW := Below.step BW b
    clear b
    have c0 := z0.2 0 _ rfl; have c1 := z0.2 1 _ rfl; have c2 := z0.2 2 _ rfl
    go_wp2_with fail
    refine (rcone_no hn HM.out HL.out d0 k).mono ?_
    rintro en w14 ⟨rfl, b⟩
    clear c0 c1 c2
    replace hn := hn.on b
    replace zf := zf.on b
    replace zg := zg.on b
    replace z0 := z0.on b
    replace BW := Below.step BW b
    clear b
    clear hn z0
    have hf : Nt w14 none 0 0 none 0 0 none 0 0 [] [] [] := ⟨⟨rfl, fun k x hx => by cases hx⟩, Ps.nil_, Ps.nil_, Sw.nil_, Sw.nil_, by omega, by omega, fun p hp => by cases hp⟩
    have hic : Is w14 none 0 [] := ⟨rfl, fun k x hx => by cases hx⟩
    have c0 := zf.2 0 _ rfl; have c1 := zf.2 1 _ rfl; have c2 := zf.2 2 _ rfl
    have c3 := zg.2 0 _ rfl; have c4 := zg.2 1 _ rfl; have c5 := zg.2 2 _ rfl
    go_wp2_with fail
    go_loopw [80] (fun iv wr => iv = .int .i64 0 ∧ wr = w14) (fun iv _ => 0)
    case atStart => exact ⟨rfl, rfl⟩
    case round =>
      obtain ⟨rfl, rfl⟩ := hrel
      go_wp2_with fail
      refine (rsame_as hf hf true (sameS_me _ _ _)).mono ?_
      rintro en w15 ⟨rfl, b⟩
      clear c0 c1 c2 c3 c4 c5
      replace hic := hic.on b
      replace BW := Below.step BW b
      clear b
      go_wp2_with fail
      refine (rints_as hic hic (by omega) true (by simp)).mono ?_
      rintro en w16 ⟨rfl, b⟩
      replace BW := Below.step BW b
      go_wp2_with fail
      go_ret
      exact ⟨rfl, BW⟩
  subst he
  obtain ⟨dd, rfl⟩ := some_of9 hl
  obtain ⟨L, lx⟩ := lv_x hl
  have LX := Lib.hid lx
  have HLN := Lib.hid hn.n.1
  clear hl lx
  go_upto_region 6 with (go_at_call 26; (with_reducible refine (ssweep_yes hn sn hi66 ho66 HB4.out LX.out).mono ?_); (rintro en w7 ⟨⟨B, Bk, kk, ck, Bi, di, Bo, do', rfl, hlB, hrB, hkl, hf, _⟩, b⟩; clear c0 c1 c2; replace hn := hn.on b; replace z0 := z0.on b; replace BW := Below.step BW b; clear b))
  have HB := Lib.hid (And.intro hlB hrB)
  have HKL := Lib.hid hkl
  obtain ⟨w8, e_w8⟩ : ∃ w', w7.alloc (.cells #[.slice Bk kk ck, .slice Bi ni di, .slice Bo no do'] 25) = w' := ⟨_, rfl⟩
  have zf : Bx w8 w7.heap.size [.slice Bk kk ck, .slice Bi ni di, .slice Bo no do'] := e_w8 ▸ Bx.made_k w7 rfl #[.slice Bk kk ck, .slice Bi ni di, .slice Bo no do'] 25
  have b : Below w7.heap.size w7 w8 := e_w8 ▸ below_lit _ _
  rw [e_w8]
  replace hn := hn.on b
  replace hf := hf.on b
  replace z0 := z0.on b
  replace BW := Below.step BW b
  obtain ⟨s5, hs5⟩ : ∃ s5, w7.heap.size = s5 := ⟨_, rfl⟩
  rw [hs5] at zf ⊢
  clear e_w8 b hs5 hlB hrB hkl
  have c0 := z0.2 0 _ rfl; have c1 := z0.2 1 _ rfl; have c2 := z0.2 2 _ rfl
  go_upto_region 7 with (go_at_call 27; (with_reducible refine (rsweep_yes hn HM.out hi66 ho66 HB4.out LX.out).mono ?_); (rintro en w9 ⟨⟨B2, Ck, kk2, ck2, Ci, di2, Co, do2, rfl, hlB2, hrB2, hkl2, hg, _⟩, b⟩; clear c0 c1 c2; replace hn := hn.on b; replace hf := hf.on b; replace zf := zf.on b; replace z0 := z0.on b; replace BW := Below.step BW b; clear b))
  have eB : B2 = B := bits_eq (hlB2.trans HB.out.1.symm) fun p => (hrB2 p).trans (HB.out.2 p).symm
  subst eB
  obtain rfl : kk = kk2 := HKL.out.symm.trans hkl2
  obtain ⟨w10, e_w10⟩ : ∃ w', w9.alloc (.cells #[.slice Ck kk ck2, .slice Ci ni di2, .slice Co no do2] 25) = w' := ⟨_, rfl⟩
  have zg : Bx w10 w9.heap.size [.slice Ck kk ck2, .slice Ci ni di2, .slice Co no do2] := e_w10 ▸ Bx.made_k w9 rfl #[.slice Ck kk ck2, .slice Ci ni di2, .slice Co no do2] 25
  have b : Below w9.heap.size w9 w10 := e_w10 ▸ below_lit _ _
  rw [e_w10]
  replace hn := hn.on b
  replace hf := hf.on b
  replace hg := hg.on b
  replace zf := zf.on b
  replace z0 := z0.on b
  replace BW := Below.step BW b
  obtain ⟨s8, hs8⟩ : ∃ s8, w9.heap.size = s8 := ⟨_, rfl⟩
  rw [hs8] at zg ⊢
  clear e_w10 b hs8 hlB2 hrB2 hkl2
  have c0 := z0.2 0 _ rfl; have c1 := z0.2 1 _ rfl; have c2 := z0.2 2 _ rfl
  go_wp2_with fail
  refine (scount_yes hn hi66 ho66 HB4.out LX.out).mono ?_
  rintro en w11 ⟨⟨g, B3, rfl, hct, _⟩, b⟩
  clear c0 c1 c2
  obtain rfl : B3 = B2 := bits_eq (hct.2.1.trans HB.out.1.symm) fun p => (hct.2.2 p).trans (HB.out.2 p).symm
  replace hn := hn.on b
  replace hf := hf.on b
  replace hg := hg.on b
  replace zf := zf.on b
  replace zg := zg.on b
  replace z0 := z0.on b
  replace BW := Below.step BW b
  have zb : Bx w11 g (B3.map .bool) := ⟨hct.1.lt, fun i u hu => (hct.1.cell i).trans hu⟩
  clear b hct
  have c0 := z0.2 0 _ rfl; have c1 := z0.2 1 _ rfl; have c2 := z0.2 2 _ rfl
  go_wp2_with fail
  refine (rcount_yes hn HM.out ho66 HB4.out LX.out).mono ?_
  rintro en w12 ⟨⟨g2, B4, rfl, hct, _⟩, b⟩
  clear c0 c1 c2
  obtain rfl : B4 = B3 := bits_eq (hct.2.1.trans HB.out.1.symm) fun p => (hct.2.2 p).trans (HB.out.2 p).symm
  replace hn := hn.on b
  replace hf := hf.on b
  replace hg := hg.on b
  replace zf := zf.on b
  replace zg := zg.on b
  replace z0 := z0.on b
  replace zb := zb.on b
  replace BW := Below.step BW b
  have zc : Bx w12 g2 (B4.map .bool) := ⟨hct.1.lt, fun i u hu => (hct.1.cell i).trans hu⟩
  clear b hct
  have c0 := z0.2 0 _ rfl; have c1 := z0.2 1 _ rfl; have c2 := z0.2 2 _ rfl
  go_wp2_with fail
  refine (scone_any hn LX.out k).mono ?_
  rintro en w13 ⟨⟨Ac, mc, cc, Lc, fc, rfl, hic, hmc, hcx⟩, b⟩
  clear c0 c1 c2
  replace hn := hn.on b
  replace hf := hf.on b
  replace hg := hg.on b
  replace zf := zf.on b
  replace zg := zg.on b
  replace z0 := z0.on b
  replace zb := zb.on b
  replace zc := zc.on b
  replace BW := Below.step BW b
  clear b
  have c0 := z0.2 0 _ rfl; have c1 := z0.2 1 _ rfl; have c2 := z0.2 2 _ rfl
  go_wp2_with fail
  refine (rcone_any hn HM.out LX.out k).mono ?_
  rintro en w14 ⟨⟨Ad, md, cd, Ld, fd, rfl, hid, hmd, hdx⟩, b⟩
  clear c0 c1 c2
  obtain ⟨rfl, rfl⟩ := hcx.out.one hdx.out
  replace hf := hf.on b
  replace hg := hg.on b
  replace zf := zf.on b
  replace zg := zg.on b
  replace zb := zb.on b
  replace zc := zc.on b
  replace hic := hic.on b
  replace BW := Below.step BW b
  clear b hn z0 hcx hdx
  have e2 : (fc != fc) = false := by simp
  have hlb := HB.out.1
  go_wp2_with fail
  clear e2
  go_loopw [80] (fun iv wr => ∃ i : Nat, i ≤ nn ∧ iv = .int .i64 i ∧ Hid (Below w14.heap.size w14 wr)) (fun iv _ => nn - (intOf iv).toNat)
  case atStart => exact ⟨0, Nat.zero_le _, rfl, Lib.hid (Below.refl _ _)⟩
  case round =>
    obtain ⟨i, hi, rfl, HBR⟩ := hrel
    by_cases hlt : i < nn
    · have hi1 : (i : Int) < (nn : Int) := by omega
      have hi0 : (0 : Int) ≤ (i : Int) := by omega
      obtain ⟨u, hu⟩ : ∃ u, (B4.map Value.bool)[i]? = some (.bool u) := ⟨B4[i], by rw [List.getElem?_map, List.getElem?_eq_getElem (by omega)]; rfl⟩
      have d1 := (zb.on HBR.out).2 i _ hu
      have d2 := (zc.on HBR.out).2 i _ hu
      have e2 : (u != u) = false := by simp
      clear hu
      go_upto_region 16 with fail
      go_quiet (fail)
      go_wp2_with fail
      go_roundw
      case rel => exact ⟨i + 1, by omega, by go_num, Lib.hid (below_drewN HBR.out _)⟩
      case measure => simp [intOf]; omega
    · obtain rfl : i = nn := by omega
      have hi1 : ¬ (i : Int) < (i : Int) := by omega
      replace hf := hf.on HBR.out
      replace hg := hg.on HBR.out
      replace hic := hic.on HBR.out
      replace hid := hid.on HBR.out
      replace zf := zf.on HBR.out
      replace zg := zg.on HBR.out
      replace BW := Below.step BW HBR.out
      have c0 := zf.2 0 _ rfl; have c1 := zf.2 1 _ rfl; have c2 := zf.2 2 _ rfl
      have c3 := zg.2 0 _ rfl; have c4 := zg.2 1 _ rfl; have c5 := zg.2 2 _ rfl
      have e2 : (((i : Int) - (kk : Int)) == ((i : Int) - (kk : Int))) = true := by simp
      go_wp2_with fail
      refine (rsame_as hf hg true (sameS_me _ _ _)).mono ?_
      rintro en w15 ⟨rfl, b⟩
      clear c0 c1 c2 c3 c4 c5
      replace hic := hic.on b
      replace hid := hid.on b
      replace BW := Below.step BW b
      clear b
      go_wp2_with fail
      refine (rints_as hic hid (by omega) true (by simp)).mono ?_
      rintro en w16 ⟨rfl, b⟩
      replace BW := Below.step BW b
      go_wp2_with fail
      go_ret
      exact ⟨rfl, BW⟩
end Go.Proofs.Ytcehklnonhalhaa
