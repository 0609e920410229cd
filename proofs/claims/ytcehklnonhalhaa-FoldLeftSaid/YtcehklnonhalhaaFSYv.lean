/-
  What the proofs of FoldSame and FoldLeft need: Yv.
-/
import Derived.Test.YtcehklnonhalhaaFSYu
import Derived.Test.YtcehklnonhalhaaFSYx
import Derived.Test.YtcehklnonhalhaaFSGt
import Derived.Test.YtcehklnonhalhaaFSLex
import Derived.Test.YtcehklnonhalhaaFSGC
namespace Go.Proofs.Ytcehklnonhalhaa
open Go.RowKit
set_option linter.unusedVariables false
set_option maxRecDepth 4000

def N9 : List Nd := [⟨1, 0, 0, 0⟩, ⟨0, 1, 0, 0⟩, ⟨3, 0, 1, 0⟩, ⟨2, 2, 0, 0⟩, ⟨2, 3, 0, 0⟩, ⟨5, 4, 0, 0⟩]
def I9 : List Pt := [⟨⟨#[97]⟩, [0]⟩]
def O9 : List Pt := [⟨⟨#[122]⟩, [2, 4, 5]⟩]
def M9 : List Nd := [⟨1, 0, 0, 0⟩, ⟨0, 1, 0, 0⟩, ⟨3, 0, 1, 0⟩, ⟨2, 0, 0, 0⟩, ⟨2, 3, 0, 0⟩, ⟨0, 0, 0, 0⟩]
def S9 : List Int := [0, 1, 0, 3, 0, 5]
def L9 : List Nat := [0, 1, 2, 3, 4, 5]
theorem wr_N9 : wrongS N9 I9 O9 = 0 := by decide +kernel
theorem wr_B9 : wrongS [⟨9, 0, 0, 0⟩] [] [] = 2 := by decide +kernel
theorem lv_N9 : levS N9 = some [0, 0, 1, 2, 3, 4] := by
  have h : All N9 (fun i => [0, 0, 1, 2, 3, 4].getD i 0) := by
    intro i hi
    have hi : i < 6 := hi
    rcases (show i = 0 ∨ i = 1 ∨ i = 2 ∨ i = 3 ∨ i = 4 ∨ i = 5 by omega) with rfl | rfl | rfl | rfl | rfl | rfl
    all_goals exact ⟨_, rfl, by decide, by decide⟩
  rw [levS_is h]
  rfl
theorem ls_N9 : levelS N9 I9 O9 = (some [0, 0, 1, 2, 3, 4], 0) := by
  unfold levelS
  rw [wr_N9, lv_N9]
  rfl
theorem ls_B9 : levelS [⟨9, 0, 0, 0⟩] [] [] = (none, 2) := by
  unfold levelS
  rw [wr_B9]
  rfl
theorem or_N9 : ordO (some [0, 0, 1, 2, 3, 4]) = nI L9 := by decide +kernel
theorem run_N9 : runF N9 L9 = (M9, S9) := by kernel_rfl
theorem nI_inj : ∀ {A B : List Nat}, nI A = nI B → A = B
  | [], [], _ => rfl
  | [], b :: B, h => by cases h
  | a :: A, [], h => by cases h
  | a :: A, b :: B, h => by
    unfold nI at h
    rw [List.map_cons, List.map_cons] at h
    injection h with h1 h2
    have h1 : ((a : Nat) : Int) = (b : Int) := h1
    rw [nI_inj (A := A) (B := B) h2, show a = b by omega]
theorem nd_L9 : L9.Nodup := by decide
theorem mem_L9 : ∀ i, i ∈ L9 ↔ i < N9.length := fun i => by
  show i ∈ [0, 1, 2, 3, 4, 5] ↔ i < 6
  simp only [List.mem_cons, List.not_mem_nil, or_false]
  omega
theorem pos_N9 : Pos N9 (fun q => L9.idxOf q) := by
  obtain ⟨L, e, _, _, hp⟩ := pos_of ls_N9
  rw [or_N9] at e
  rw [nI_inj e]
  exact hp
theorem ch_N9 : chN S9 (M9.map (dffS S9)) N9 6 = 3 := by decide +kernel
theorem m_N9 : M9.map (dffS S9) = M9 := by kernel_rfl
theorem o_N9 : O9.map (outF S9) = [⟨⟨#[122]⟩, [0, 0, 5]⟩] := by kernel_rfl
theorem pl_N9 : ∀ p ∈ O9, ∀ q ∈ p.bits, placeS (N9.length : Int) q = true := by decide +kernel
attribute [local go_sem ↓] node_eql node_neq
set_option maxRecDepth 20000 in
set_option maxHeartbeats 8000000 in
theorem awake9_any (w : World) : Calls Try.prog 14 #[] w fun en w' => en = .returned (.bool true) ∧ Below w.heap.size w w' := by
  go_enter Try.func14, Try.ntmps14
  go_upto_region 2 with fail
  obtain ⟨w1, e_w1⟩ : ∃ w', w.alloc (.cells #[.int .i64 1, .int .i64 0, .int .i64 0, .int .i64 0, .int .i64 0, .int .i64 1, .int .i64 0, .int .i64 0, .int .i64 3, .int .i64 0, .int .i64 1, .int .i64 0, .int .i64 2, .int .i64 2, .int .i64 0, .int .i64 0, .int .i64 2, .int .i64 3, .int .i64 0, .int .i64 0, .int .i64 5, .int .i64 4, .int .i64 0, .int .i64 0] 43) = w' := ⟨_, rfl⟩
  have b : Below w.heap.size w w1 := e_w1 ▸ below_lit _ _
  have hs_w1 : w1.heap.size = w.heap.size + 1 := e_w1 ▸ size_lit w _ rfl
  have xn : Bx w1 w.heap.size [.int .i64 1, .int .i64 0, .int .i64 0, .int .i64 0, .int .i64 0, .int .i64 1, .int .i64 0, .int .i64 0, .int .i64 3, .int .i64 0, .int .i64 1, .int .i64 0, .int .i64 2, .int .i64 2, .int .i64 0, .int .i64 0, .int .i64 2, .int .i64 3, .int .i64 0, .int .i64 0, .int .i64 5, .int .i64 4, .int .i64 0, .int .i64 0] := e_w1 ▸ Bx.made_k w rfl #[.int .i64 1, .int .i64 0, .int .i64 0, .int .i64 0, .int .i64 0, .int .i64 1, .int .i64 0, .int .i64 0, .int .i64 3, .int .i64 0, .int .i64 1, .int .i64 0, .int .i64 2, .int .i64 2, .int .i64 0, .int .i64 0, .int .i64 2, .int .i64 3, .int .i64 0, .int .i64 0, .int .i64 5, .int .i64 4, .int .i64 0, .int .i64 0] 43
  rw [e_w1]
  clear e_w1
  have BW := b
  clear b
  obtain ⟨w2, e_w2⟩ : ∃ w', w1.alloc (.cells #[.int .i64 0] 3) = w' := ⟨_, rfl⟩
  have b : Below w1.heap.size w1 w2 := e_w2 ▸ below_lit _ _
  have hs_w2 : w2.heap.size = (w.heap.size + 1) + 1 := e_w2 ▸ size_lit w1 _ hs_w1
  have xa : Bx w2 (w.heap.size + 1) [.int .i64 0] := e_w2 ▸ Bx.made_k w1 hs_w1 #[.int .i64 0] 3
  rw [e_w2]
  clear e_w2
  replace xn := xn.on b
  replace BW := Below.step BW b
  clear b
  obtain ⟨w3, e_w3⟩ : ∃ w', w2.alloc (.cells #[.string ⟨#[97]⟩, .slice (some ⟨(w.heap.size + 1), 0, none⟩) 1 1] 41) = w' := ⟨_, rfl⟩
  have b : Below w2.heap.size w2 w3 := e_w3 ▸ below_lit _ _
  have hs_w3 : w3.heap.size = ((w.heap.size + 1) + 1) + 1 := e_w3 ▸ size_lit w2 _ hs_w2
  have xi : Bx w3 ((w.heap.size + 1) + 1) [.string ⟨#[97]⟩, .slice (some ⟨(w.heap.size + 1), 0, none⟩) 1 1] := e_w3 ▸ Bx.made_k w2 hs_w2 #[.string ⟨#[97]⟩, .slice (some ⟨(w.heap.size + 1), 0, none⟩) 1 1] 41
  rw [e_w3]
  clear e_w3
  replace xn := xn.on b
  replace xa := xa.on b
  replace BW := Below.step BW b
  clear b
  obtain ⟨w4, e_w4⟩ : ∃ w', w3.alloc (.cells #[.int .i64 2, .int .i64 4, .int .i64 5] 3) = w' := ⟨_, rfl⟩
  have b : Below w3.heap.size w3 w4 := e_w4 ▸ below_lit _ _
  have hs_w4 : w4.heap.size = (((w.heap.size + 1) + 1) + 1) + 1 := e_w4 ▸ size_lit w3 _ hs_w3
  have xb : Bx w4 (((w.heap.size + 1) + 1) + 1) [.int .i64 2, .int .i64 4, .int .i64 5] := e_w4 ▸ Bx.made_k w3 hs_w3 #[.int .i64 2, .int .i64 4, .int .i64 5] 3
  rw [e_w4]
  clear e_w4
  replace xn := xn.on b
  replace xa := xa.on b
  replace xi := xi.on b
  replace BW := Below.step BW b
  clear b
  obtain ⟨w5, e_w5⟩ : ∃ w', w4.alloc (.cells #[.string ⟨#[122]⟩, .slice (some ⟨(((w.heap.size + 1) + 1) + 1), 0, none⟩) 3 3] 41) = w' := ⟨_, rfl⟩
  have b : Below w4.heap.size w4 w5 := e_w5 ▸ below_lit _ _
  have hs_w5 : w5.heap.size = ((((w.heap.size + 1) + 1) + 1) + 1) + 1 := e_w5 ▸ size_lit w4 _ hs_w4
  have xo : Bx w5 ((((w.heap.size + 1) + 1) + 1) + 1) [.string ⟨#[122]⟩, .slice (some ⟨(((w.heap.size + 1) + 1) + 1), 0, none⟩) 3 3] := e_w5 ▸ Bx.made_k w4 hs_w4 #[.string ⟨#[122]⟩, .slice (some ⟨(((w.heap.size + 1) + 1) + 1), 0, none⟩) 3 3] 41
  rw [e_w5]
  clear e_w5
  replace xn := xn.on b
  replace xa := xa.on b
  replace xi := xi.on b
  replace xb := xb.on b
  replace BW := Below.step BW b
  clear b
  obtain ⟨w6, e_w6⟩ : ∃ w', w5.alloc (.cells #[.slice (some ⟨w.heap.size, 0, none⟩) 6 6, .slice (some ⟨((w.heap.size + 1) + 1), 0, none⟩) 1 1, .slice (some ⟨((((w.heap.size + 1) + 1) + 1) + 1), 0, none⟩) 1 1] 25) = w' := ⟨_, rfl⟩
  have b : Below w5.heap.size w5 w6 := e_w6 ▸ below_lit _ _
  have hs_w6 : w6.heap.size = (((((w.heap.size + 1) + 1) + 1) + 1) + 1) + 1 := e_w6 ▸ size_lit w5 _ hs_w5
  have zn : Bx w6 (((((w.heap.size + 1) + 1) + 1) + 1) + 1) [.slice (some ⟨w.heap.size, 0, none⟩) 6 6, .slice (some ⟨((w.heap.size + 1) + 1), 0, none⟩) 1 1, .slice (some ⟨((((w.heap.size + 1) + 1) + 1) + 1), 0, none⟩) 1 1] := e_w6 ▸ Bx.made_k w5 hs_w5 #[.slice (some ⟨w.heap.size, 0, none⟩) 6 6, .slice (some ⟨((w.heap.size + 1) + 1), 0, none⟩) 1 1, .slice (some ⟨((((w.heap.size + 1) + 1) + 1) + 1), 0, none⟩) 1 1] 25
  rw [e_w6]
  clear e_w6
  replace xn := xn.on b
  replace xa := xa.on b
  replace xi := xi.on b
  replace xb := xb.on b
  replace xo := xo.on b
  replace BW := Below.step BW b
  clear b
  have h : Nt w6 (some ⟨w.heap.size, 0, none⟩) 6 6 (some ⟨((w.heap.size + 1) + 1), 0, none⟩) 1 1 (some ⟨((((w.heap.size + 1) + 1) + 1) + 1), 0, none⟩) 1 1 N9 I9 O9 := ⟨Bx.ns (L := N9) xn, xi.ps1 (Bx.is (L := [0]) xa) ⟨by omega, fun e => by cases e⟩ (by unfold maxLen; omega), xo.ps1 (Bx.is (L := [2, 4, 5]) xb) ⟨by omega, fun e => by cases e⟩ (by unfold maxLen; omega), Sw.one _ _ (by omega), Sw.one _ _ (by omega), by omega, by omega, fun p hp => by simp [I9, O9] at hp; rcases hp with rfl | rfl <;> simp⟩
  clear xn xa xi xb xo
  clear hs_w1 hs_w2 hs_w3 hs_w4 hs_w5 hs_w6
  obtain ⟨a5, ha5⟩ : ∃ a, (((((w.heap.size + 1) + 1) + 1) + 1) + 1) = a := ⟨_, rfl⟩
  rw [ha5] at zn ⊢
  clear ha5
  obtain ⟨a4, ha4⟩ : ∃ a, ((((w.heap.size + 1) + 1) + 1) + 1) = a := ⟨_, rfl⟩
  rw [ha4] at h zn ⊢
  clear ha4
  obtain ⟨a3, ha3⟩ : ∃ a, (((w.heap.size + 1) + 1) + 1) = a := ⟨_, rfl⟩
  rw [ha3] at ⊢
  clear ha3
  obtain ⟨a2, ha2⟩ : ∃ a, ((w.heap.size + 1) + 1) = a := ⟨_, rfl⟩
  rw [ha2] at h zn ⊢
  clear ha2
  obtain ⟨a1, ha1⟩ : ∃ a, (w.heap.size + 1) = a := ⟨_, rfl⟩
  rw [ha1] at ⊢
  clear ha1
  have znc0 := zn.2 0 _ rfl
  have znc1 := zn.2 1 _ rfl
  have znc2 := zn.2 2 _ rfl
  go_wp2_with fail
  refine (fold_yes h (Sw.one _ _ (by omega)) (fun p hp => by simp [I9, O9] at hp; rcases hp with rfl | rfl <;> simp) ls_N9 or_N9 nd_L9 mem_L9 pos_N9 pl_N9).mono ?_
  rintro en w7 ⟨⟨Bn, dn, Bi, di, Bo, do', M, S, rfl, hrun, _, hf, _⟩, b⟩
  clear znc0 znc1 znc2
  replace zn := zn.on b
  replace h := h.on b
  replace BW := Below.step BW b
  clear b
  obtain ⟨rfl, rfl⟩ := Prod.mk.inj (run_N9.symm.trans hrun)
  rw [ch_N9]
  rw [m_N9, o_N9] at hf
  clear hrun
  go_upto_region 3 with fail
  obtain ⟨w8, e_w8⟩ : ∃ w', w7.alloc (.cells #[.slice Bn 6 dn, .slice Bi 1 di, .slice Bo 1 do'] 25) = w' := ⟨_, rfl⟩
  have b : Below w7.heap.size w7 w8 := e_w8 ▸ below_lit _ _
  have hs_w8 : w8.heap.size = w7.heap.size + 1 := e_w8 ▸ size_lit w7 _ rfl
  have zf : Bx w8 w7.heap.size [.slice Bn 6 dn, .slice Bi 1 di, .slice Bo 1 do'] := e_w8 ▸ Bx.made_k w7 rfl #[.slice Bn 6 dn, .slice Bi 1 di, .slice Bo 1 do'] 25
  rw [e_w8]
  clear e_w8
  replace zn := zn.on b
  replace h := h.on b
  replace hf := hf.on b
  replace BW := Below.step BW b
  clear b
  clear hs_w8
  have znc0 := zn.2 0 _ rfl
  have znc1 := zn.2 1 _ rfl
  have znc2 := zn.2 2 _ rfl
  go_wp2_with fail
  refine (stands_yes h (Sw.one _ _ (by omega)) (fun p hp => by simp [I9, O9] at hp; rcases hp with rfl | rfl <;> simp) ls_N9 or_N9 nd_L9 mem_L9 pos_N9).mono ?_
  rintro en w9 ⟨⟨As, cs, rfl, his⟩, b⟩
  clear znc0 znc1 znc2
  replace zn := zn.on b
  replace h := h.on b
  replace hf := hf.on b
  replace zf := zf.on b
  replace BW := Below.step BW b
  clear b
  rw [run_N9] at his
  clear h zn
  go_wp2_with fail
  obtain ⟨w10, e_w10⟩ : ∃ w', w9.alloc (.cells #[.int .i64 9, .int .i64 0, .int .i64 0, .int .i64 0] 43) = w' := ⟨_, rfl⟩
  have b : Below w9.heap.size w9 w10 := e_w10 ▸ below_lit _ _
  have hs_w10 : w10.heap.size = w9.heap.size + 1 := e_w10 ▸ size_lit w9 _ rfl
  have xl : Bx w10 w9.heap.size [.int .i64 9, .int .i64 0, .int .i64 0, .int .i64 0] := e_w10 ▸ Bx.made_k w9 rfl #[.int .i64 9, .int .i64 0, .int .i64 0, .int .i64 0] 43
  rw [e_w10]
  clear e_w10
  replace hf := hf.on b
  replace zf := zf.on b
  replace his := his.on b
  replace BW := Below.step BW b
  clear b
  have h9 : Nt w10 (some ⟨w9.heap.size, 0, none⟩) 1 1 none 0 0 none 0 0 [⟨9, 0, 0, 0⟩] [] [] := ⟨Bx.ns (L := [⟨9, 0, 0, 0⟩]) xl, Ps.nil_, Ps.nil_, Sw.nil_, Sw.nil_, by omega, by omega, fun p hp => by cases hp⟩
  clear xl
  clear hs_w10
  refine (fold_no h9 ls_B9 (by decide)).mono ?_
  rintro en w11 ⟨rfl, b⟩
  replace hf := hf.on b
  replace zf := zf.on b
  replace his := his.on b
  replace BW := Below.step BW b
  clear b
  clear h9
  go_upto_region 5 with fail
  obtain ⟨w12, e_w12⟩ : ∃ w', w11.alloc (.cells #[.slice none 0 0, .slice none 0 0, .slice none 0 0] 25) = w' := ⟨_, rfl⟩
  have b : Below w11.heap.size w11 w12 := e_w12 ▸ below_lit _ _
  have hs_w12 : w12.heap.size = w11.heap.size + 1 := e_w12 ▸ size_lit w11 _ rfl
  have zx : Bx w12 w11.heap.size [.slice none 0 0, .slice none 0 0, .slice none 0 0] := e_w12 ▸ Bx.made_k w11 rfl #[.slice none 0 0, .slice none 0 0, .slice none 0 0] 25
  rw [e_w12]
  clear e_w12
  replace hf := hf.on b
  replace zf := zf.on b
  replace his := his.on b
  replace BW := Below.step BW b
  clear b
  clear hs_w12
  clear zx
  obtain ⟨bo, oo, Ab, mb, cb, eo, lo, _, co, _, _, hbi⟩ := hf.o.2 0 _ rfl
  obtain rfl : mb = 3 := hbi.1.symm
  obtain ⟨bn, on, en, ln, n0, n1, n2, n3⟩ := hf.n.2 5 _ rfl
  subst eo en
  have qo : CAt w12 bo (oo + 1) (.slice Ab 3 cb) := ⟨lo, co⟩
  have q0 : CAt w12 bn (on + 20) (.int .i64 0) := ⟨ln, n0⟩
  have q1 : CAt w12 bn (on + 21) (.int .i64 0) := ⟨ln, n1⟩
  have q2 : CAt w12 bn (on + 22) (.int .i64 0) := ⟨ln, n2⟩
  have q3 : CAt w12 bn (on + 23) (.int .i64 0) := ⟨ln, n3⟩
  have his3 : Is _ Ab 3 [0, 0, 5] := hbi
  clear lo co hbi ln n0 n1 n2 n3
  clear hf
  have zfc0 := zf.2 0 _ rfl
  have zfc1 := zf.2 1 _ rfl
  have zfc2 := zf.2 2 _ rfl
  have qoc := qo.c
  have q0c := q0.c
  have q1c := q1.c
  have q2c := q2.c
  have q3c := q3.c
  go_wp2_with fail
  clear zfc0 zfc1 zfc2 qoc q0c q1c q2c q3c
  obtain ⟨w13, e_w13⟩ : ∃ w', w12.alloc (.cells #[.int .i64 0, .int .i64 0, .int .i64 5] 3) = w' := ⟨_, rfl⟩
  have b : Below w12.heap.size w12 w13 := e_w13 ▸ below_lit _ _
  have hs_w13 : w13.heap.size = w12.heap.size + 1 := e_w13 ▸ size_lit w12 _ rfl
  have li : Bx w13 w12.heap.size [.int .i64 0, .int .i64 0, .int .i64 5] := e_w13 ▸ Bx.made_k w12 rfl #[.int .i64 0, .int .i64 0, .int .i64 5] 3
  rw [e_w13]
  clear e_w13
  replace zf := zf.on b
  replace his := his.on b
  replace qo := qo.on b
  replace q0 := q0.on b
  replace q1 := q1.on b
  replace q2 := q2.on b
  replace q3 := q3.on b
  replace his3 := his3.on b
  replace BW := Below.step BW b
  clear b
  clear hs_w13
  refine (rints_as his3 (Bx.is (L := [0, 0, 5]) li) (by omega) true (by rfl)).mono ?_
  rintro en w14 ⟨rfl, b⟩
  replace zf := zf.on b
  replace his := his.on b
  replace qo := qo.on b
  replace q0 := q0.on b
  replace q1 := q1.on b
  replace q2 := q2.on b
  replace q3 := q3.on b
  replace his3 := his3.on b
  replace li := li.on b
  replace BW := Below.step BW b
  clear b
  clear li his3
  have ez : sameN ⟨0, 0, 0, 0⟩ ⟨0, 0, 0, 0⟩ = true := rfl
  have zfc0 := zf.2 0 _ rfl
  have zfc1 := zf.2 1 _ rfl
  have zfc2 := zf.2 2 _ rfl
  have qoc := qo.c
  have q0c := q0.c
  have q1c := q1.c
  have q2c := q2.c
  have q3c := q3.c
  go_wp2_with fail
  clear zfc0 zfc1 zfc2 qoc q0c q1c q2c q3c
  obtain ⟨w15, e_w15⟩ : ∃ w', w14.alloc (.cells #[.int .i64 0, .int .i64 1, .int .i64 0, .int .i64 3, .int .i64 0, .int .i64 5] 3) = w' := ⟨_, rfl⟩
  have b : Below w14.heap.size w14 w15 := e_w15 ▸ below_lit _ _
  have hs_w15 : w15.heap.size = w14.heap.size + 1 := e_w15 ▸ size_lit w14 _ rfl
  have lj : Bx w15 w14.heap.size [.int .i64 0, .int .i64 1, .int .i64 0, .int .i64 3, .int .i64 0, .int .i64 5] := e_w15 ▸ Bx.made_k w14 rfl #[.int .i64 0, .int .i64 1, .int .i64 0, .int .i64 3, .int .i64 0, .int .i64 5] 3
  rw [e_w15]
  clear e_w15
  replace zf := zf.on b
  replace his := his.on b
  replace qo := qo.on b
  replace q0 := q0.on b
  replace q1 := q1.on b
  replace q2 := q2.on b
  replace q3 := q3.on b
  replace BW := Below.step BW b
  clear b
  clear hs_w15
  refine (rints_as his (Bx.is (L := [0, 1, 0, 3, 0, 5]) lj) (by have := his.1; simp [S9] at this; omega) true (by rfl)).mono ?_
  rintro en w16 ⟨rfl, b⟩
  replace zf := zf.on b
  replace his := his.on b
  replace qo := qo.on b
  replace q0 := q0.on b
  replace q1 := q1.on b
  replace q2 := q2.on b
  replace q3 := q3.on b
  replace lj := lj.on b
  replace BW := Below.step BW b
  clear b
  go_wp2_with fail
  go_ret
  exact ⟨rfl, BW⟩
end Go.Proofs.Ytcehklnonhalhaa
