/-
  What the proofs of ShareSame and ShareLeft need: Vg Vz.
-/
import Derived.Test.YtcehklnonhalhaaSHVf
import Derived.Test.YtcehklnonhalhaaSHYv
import Derived.Test.YtcehklnonhalhaaSHHR
import Derived.Test.YtcehklnonhalhaaSHLexG
namespace Go.Proofs.Ytcehklnonhalhaa
open Go.RowKit
set_option linter.unusedVariables false
set_option maxRecDepth 4000

def N10 : List Nd := [⟨1, 0, 0, 0⟩, ⟨1, 0, 0, 0⟩, ⟨3, 0, 1, 0⟩, ⟨3, 1, 0, 0⟩, ⟨5, 3, 2, 0⟩]
def I10 : List Pt := [⟨⟨#[97]⟩, [0, 1]⟩]
def O10 : List Pt := [⟨⟨#[122]⟩, [3, 4]⟩]
def M10 : List Nd := [⟨1, 0, 0, 0⟩, ⟨1, 0, 0, 0⟩, ⟨3, 0, 1, 0⟩, ⟨3, 0, 1, 0⟩, ⟨5, 2, 2, 0⟩]
def S10 : List Int := [0, 1, 2, 2, 4]
def L10 : List Nat := [0, 1, 2, 3, 4]
theorem wr_N10 : wrongS N10 I10 O10 = 0 := by decide +kernel
theorem lv_N10 : levS N10 = some [0, 0, 1, 1, 2] := by
  have h : All N10 (fun i => [0, 0, 1, 1, 2].getD i 0) := by
    intro i hi
    have hi : i < 5 := hi
    rcases (show i = 0 ∨ i = 1 ∨ i = 2 ∨ i = 3 ∨ i = 4 by omega) with rfl | rfl | rfl | rfl | rfl
    all_goals exact ⟨_, rfl, by decide, by decide⟩
  rw [levS_is h]
  rfl
theorem ls_N10 : levelS N10 I10 O10 = (some [0, 0, 1, 1, 2], 0) := by
  unfold levelS
  rw [wr_N10, lv_N10]
  rfl
theorem or_N10 : ordO (some [0, 0, 1, 1, 2]) = nI L10 := by decide +kernel
theorem run_M10 : (runK N10 L10).1 = M10 := by kernel_rfl
theorem run_S10 : (runK N10 L10).2.1 = S10 := by kernel_rfl
theorem lx_N10 : LvN N10 I10 O10 [0, 0, 1, 1, 2] L10 := by
  obtain ⟨L, lx⟩ := lv_x ls_N10
  obtain rfl := nI_inj (lx.ord.symm.trans or_N10)
  exact lx
theorem ch_N10 : chS S10 5 = 1 := by decide +kernel
theorem m_N10 : M10.map (dffS S10) = M10 := by kernel_rfl
theorem o_N10 : O10.map (outF S10) = [⟨⟨#[122]⟩, [2, 4]⟩] := by kernel_rfl
attribute [local go_sem ↓] node_eql node_neq
theorem field_a (k a b c : Int) (w : World) : (Instr.field 43 (.agg #[.int .i64 k, .int .i64 a, .int .i64 b, .int .i64 c]) 1).run Try.prog w = .ok (.int .i64 a) w := by kernel_rfl
attribute [local go_sem ↓] field_a
set_option maxRecDepth 20000 in
set_option maxHeartbeats 8000000 in
theorem awake10_any (w : World) : Calls Try.prog 22 #[] w fun en w' => en = .returned (.bool true) ∧ Below w.heap.size w w' := by
  go_enter Try.func22, Try.ntmps22
  go_upto_region 2 with fail
  obtain ⟨w1, e_w1⟩ : ∃ w', w.alloc (.cells #[.int .i64 1, .int .i64 0, .int .i64 0, .int .i64 0, .int .i64 1, .int .i64 0, .int .i64 0, .int .i64 0, .int .i64 3, .int .i64 0, .int .i64 1, .int .i64 0, .int .i64 3, .int .i64 1, .int .i64 0, .int .i64 0, .int .i64 5, .int .i64 3, .int .i64 2, .int .i64 0] 43) = w' := ⟨_, rfl⟩
  have b : Below w.heap.size w w1 := e_w1 ▸ below_lit _ _
  have hs_w1 : w1.heap.size = w.heap.size + 1 := e_w1 ▸ size_lit w _ rfl
  have xn : Bx w1 w.heap.size [.int .i64 1, .int .i64 0, .int .i64 0, .int .i64 0, .int .i64 1, .int .i64 0, .int .i64 0, .int .i64 0, .int .i64 3, .int .i64 0, .int .i64 1, .int .i64 0, .int .i64 3, .int .i64 1, .int .i64 0, .int .i64 0, .int .i64 5, .int .i64 3, .int .i64 2, .int .i64 0] := e_w1 ▸ Bx.made_k w rfl #[.int .i64 1, .int .i64 0, .int .i64 0, .int .i64 0, .int .i64 1, .int .i64 0, .int .i64 0, .int .i64 0, .int .i64 3, .int .i64 0, .int .i64 1, .int .i64 0, .int .i64 3, .int .i64 1, .int .i64 0, .int .i64 0, .int .i64 5, .int .i64 3, .int .i64 2, .int .i64 0] 43
  rw [e_w1]
  clear e_w1
  have BW := b
  clear b
  obtain ⟨w2, e_w2⟩ : ∃ w', w1.alloc (.cells #[.int .i64 0, .int .i64 1] 3) = w' := ⟨_, rfl⟩
  have b : Below w1.heap.size w1 w2 := e_w2 ▸ below_lit _ _
  have hs_w2 : w2.heap.size = (w.heap.size + 1) + 1 := e_w2 ▸ size_lit w1 _ hs_w1
  have xa : Bx w2 (w.heap.size + 1) [.int .i64 0, .int .i64 1] := e_w2 ▸ Bx.made_k w1 hs_w1 #[.int .i64 0, .int .i64 1] 3
  rw [e_w2]
  clear e_w2
  replace xn := xn.on b
  replace BW := Below.step BW b
  clear b
  obtain ⟨w3, e_w3⟩ : ∃ w', w2.alloc (.cells #[.string ⟨#[97]⟩, .slice (some ⟨(w.heap.size + 1), 0, none⟩) 2 2] 41) = w' := ⟨_, rfl⟩
  have b : Below w2.heap.size w2 w3 := e_w3 ▸ below_lit _ _
  have hs_w3 : w3.heap.size = ((w.heap.size + 1) + 1) + 1 := e_w3 ▸ size_lit w2 _ hs_w2
  have xi : Bx w3 ((w.heap.size + 1) + 1) [.string ⟨#[97]⟩, .slice (some ⟨(w.heap.size + 1), 0, none⟩) 2 2] := e_w3 ▸ Bx.made_k w2 hs_w2 #[.string ⟨#[97]⟩, .slice (some ⟨(w.heap.size + 1), 0, none⟩) 2 2] 41
  rw [e_w3]
  clear e_w3
  replace xn := xn.on b
  replace xa := xa.on b
  replace BW := Below.step BW b
  clear b
  obtain ⟨w4, e_w4⟩ : ∃ w', w3.alloc (.cells #[.int .i64 3, .int .i64 4] 3) = w' := ⟨_, rfl⟩
  have b : Below w3.heap.size w3 w4 := e_w4 ▸ below_lit _ _
  have hs_w4 : w4.heap.size = (((w.heap.size + 1) + 1) + 1) + 1 := e_w4 ▸ size_lit w3 _ hs_w3
  have xb : Bx w4 (((w.heap.size + 1) + 1) + 1) [.int .i64 3, .int .i64 4] := e_w4 ▸ Bx.made_k w3 hs_w3 #[.int .i64 3, .int .i64 4] 3
  rw [e_w4]
  clear e_w4
  replace xn := xn.on b
  replace xa := xa.on b
  replace xi := xi.on b
  replace BW := Below.step BW b
  clear b
  obtain ⟨w5, e_w5⟩ : ∃ w', w4.alloc (.cells #[.string ⟨#[122]⟩, .slice (some ⟨(((w.heap.size + 1) + 1) + 1), 0, none⟩) 2 2] 41) = w' := ⟨_, rfl⟩
  have b : Below w4.heap.size w4 w5 := e_w5 ▸ below_lit _ _
  have hs_w5 : w5.heap.size = ((((w.heap.size + 1) + 1) + 1) + 1) + 1 := e_w5 ▸ size_lit w4 _ hs_w4
  have xo : Bx w5 ((((w.heap.size + 1) + 1) + 1) + 1) [.string ⟨#[122]⟩, .slice (some ⟨(((w.heap.size + 1) + 1) + 1), 0, none⟩) 2 2] := e_w5 ▸ Bx.made_k w4 hs_w4 #[.string ⟨#[122]⟩, .slice (some ⟨(((w.heap.size + 1) + 1) + 1), 0, none⟩) 2 2] 41
  rw [e_w5]
  clear e_w5
  replace xn := xn.on b
  replace xa := xa.on b
  replace xi := xi.on b
  replace xb := xb.on b
  replace BW := Below.step BW b
  clear b
  obtain ⟨w6, e_w6⟩ : ∃ w', w5.alloc (.cells #[.slice (some ⟨w.heap.size, 0, none⟩) 5 5, .slice (some ⟨((w.heap.size + 1) + 1), 0, none⟩) 1 1, .slice (some ⟨((((w.heap.size + 1) + 1) + 1) + 1), 0, none⟩) 1 1] 25) = w' := ⟨_, rfl⟩
  have b : Below w5.heap.size w5 w6 := e_w6 ▸ below_lit _ _
  have hs_w6 : w6.heap.size = (((((w.heap.size + 1) + 1) + 1) + 1) + 1) + 1 := e_w6 ▸ size_lit w5 _ hs_w5
  have zn : Bx w6 (((((w.heap.size + 1) + 1) + 1) + 1) + 1) [.slice (some ⟨w.heap.size, 0, none⟩) 5 5, .slice (some ⟨((w.heap.size + 1) + 1), 0, none⟩) 1 1, .slice (some ⟨((((w.heap.size + 1) + 1) + 1) + 1), 0, none⟩) 1 1] := e_w6 ▸ Bx.made_k w5 hs_w5 #[.slice (some ⟨w.heap.size, 0, none⟩) 5 5, .slice (some ⟨((w.heap.size + 1) + 1), 0, none⟩) 1 1, .slice (some ⟨((((w.heap.size + 1) + 1) + 1) + 1), 0, none⟩) 1 1] 25
  rw [e_w6]
  clear e_w6
  replace xn := xn.on b
  replace xa := xa.on b
  replace xi := xi.on b
  replace xb := xb.on b
  replace xo := xo.on b
  replace BW := Below.step BW b
  clear b
  have h : Nt w6 (some ⟨w.heap.size, 0, none⟩) 5 5 (some ⟨((w.heap.size + 1) + 1), 0, none⟩) 1 1 (some ⟨((((w.heap.size + 1) + 1) + 1) + 1), 0, none⟩) 1 1 N10 I10 O10 := ⟨Bx.ns (L := N10) xn, xi.ps1 (Bx.is (L := [0, 1]) xa) ⟨by omega, fun e => by cases e⟩ (by unfold maxLen; omega), xo.ps1 (Bx.is (L := [3, 4]) xb) ⟨by omega, fun e => by cases e⟩ (by unfold maxLen; omega), Sw.one _ _ (by omega), Sw.one _ _ (by omega), by omega, by omega, fun p hp => by simp [I10, O10] at hp; rcases hp with rfl | rfl <;> simp⟩
  clear xn xa xi xb xo
  clear hs_w1 hs_w2 hs_w3 hs_w4 hs_w5 hs_w6
  obtain ⟨a5, ha5⟩ : ∃ a, (((((w.heap.size + 1) + 1) + 1) + 1) + 1) = a := ⟨_, rfl⟩
  rw [ha5] at zn ⊢
  clear ha5
  obtain ⟨a4, ha4⟩ : ∃ a, ((((w.heap.size + 1) + 1) + 1) + 1) = a := ⟨_, rfl⟩
  rw [ha4] at h zn ⊢
  clear ha4
  obtain ⟨a3, ha3⟩ : ∃ a, (((w.heap.size + 1) + 1) + 1) = a := ⟨_, rfl⟩
  rw [ha3] at ⊢
  clear ha3
  obtain ⟨a2, ha2⟩ : ∃ a, ((w.heap.size + 1) + 1) = a := ⟨_, rfl⟩
  rw [ha2] at h zn ⊢
  clear ha2
  obtain ⟨a1, ha1⟩ : ∃ a, (w.heap.size + 1) = a := ⟨_, rfl⟩
  rw [ha1] at ⊢
  clear ha1
  have znc0 := zn.2 0 _ rfl
  have znc1 := zn.2 1 _ rfl
  have znc2 := zn.2 2 _ rfl
  go_wp2_with fail
  refine (share_yes h (Sw.one _ _ (by omega)) (fun p hp => by simp [I10, O10] at hp; rcases hp with rfl | rfl <;> simp) lx_N10).mono ?_
  rintro en w7 ⟨⟨Bn, dn, Bi, di, Bo, do', M, S, F, rfl, hrun, _, hf, _⟩, b⟩
  clear znc0 znc1 znc2
  replace zn := zn.on b
  replace h := h.on b
  replace BW := Below.step BW b
  clear b
  obtain rfl : M10 = M := run_M10.symm.trans (congrArg (·.1) hrun)
  obtain rfl : S10 = S := run_S10.symm.trans (congrArg (·.2.1) hrun)
  rw [ch_N10]
  rw [m_N10, o_N10] at hf
  clear hrun
  go_upto_region 3 with fail
  obtain ⟨w8, e_w8⟩ : ∃ w', w7.alloc (.cells #[.slice Bn 5 dn, .slice Bi 1 di, .slice Bo 1 do'] 25) = w' := ⟨_, rfl⟩
  have b : Below w7.heap.size w7 w8 := e_w8 ▸ below_lit _ _
  have hs_w8 : w8.heap.size = w7.heap.size + 1 := e_w8 ▸ size_lit w7 _ rfl
  have zf : Bx w8 w7.heap.size [.slice Bn 5 dn, .slice Bi 1 di, .slice Bo 1 do'] := e_w8 ▸ Bx.made_k w7 rfl #[.slice Bn 5 dn, .slice Bi 1 di, .slice Bo 1 do'] 25
  rw [e_w8]
  clear e_w8
  replace zn := zn.on b
  replace h := h.on b
  replace hf := hf.on b
  replace BW := Below.step BW b
  clear b
  clear hs_w8
  clear h zn
  go_wp2_with fail
  obtain ⟨w9, e_w9⟩ : ∃ w', w8.alloc (.cells #[.int .i64 9, .int .i64 0, .int .i64 0, .int .i64 0] 43) = w' := ⟨_, rfl⟩
  have b : Below w8.heap.size w8 w9 := e_w9 ▸ below_lit _ _
  have hs_w9 : w9.heap.size = w8.heap.size + 1 := e_w9 ▸ size_lit w8 _ rfl
  have xl : Bx w9 w8.heap.size [.int .i64 9, .int .i64 0, .int .i64 0, .int .i64 0] := e_w9 ▸ Bx.made_k w8 rfl #[.int .i64 9, .int .i64 0, .int .i64 0, .int .i64 0] 43
  rw [e_w9]
  clear e_w9
  replace hf := hf.on b
  replace zf := zf.on b
  replace BW := Below.step BW b
  clear b
  have h9 : Nt w9 (some ⟨w8.heap.size, 0, none⟩) 1 1 none 0 0 none 0 0 [⟨9, 0, 0, 0⟩] [] [] := ⟨Bx.ns (L := [⟨9, 0, 0, 0⟩]) xl, Ps.nil_, Ps.nil_, Sw.nil_, Sw.nil_, by omega, by omega, fun p hp => by cases hp⟩
  clear xl
  clear hs_w9
  refine (share_no h9 ls_B9 (by decide)).mono ?_
  rintro en w10 ⟨rfl, b⟩
  replace hf := hf.on b
  replace zf := zf.on b
  replace BW := Below.step BW b
  clear b
  clear h9
  go_upto_region 4 with fail
  obtain ⟨w11, e_w11⟩ : ∃ w', w10.alloc (.cells #[.slice none 0 0, .slice none 0 0, .slice none 0 0] 25) = w' := ⟨_, rfl⟩
  have b : Below w10.heap.size w10 w11 := e_w11 ▸ below_lit _ _
  have hs_w11 : w11.heap.size = w10.heap.size + 1 := e_w11 ▸ size_lit w10 _ rfl
  have zx : Bx w11 w10.heap.size [.slice none 0 0, .slice none 0 0, .slice none 0 0] := e_w11 ▸ Bx.made_k w10 rfl #[.slice none 0 0, .slice none 0 0, .slice none 0 0] 25
  rw [e_w11]
  clear e_w11
  replace hf := hf.on b
  replace zf := zf.on b
  replace BW := Below.step BW b
  clear b
  clear hs_w11
  clear zx
  obtain ⟨bo, oo, Ab, mb, cb, eo, lo, _, co, _, _, hbi⟩ := hf.o.2 0 _ rfl
  obtain rfl : mb = 2 := hbi.1.symm
  obtain ⟨bn, on, en, ln, n0, n1, n2, n3⟩ := hf.n.2 4 _ rfl
  subst eo en
  have qo : CAt w11 bo (oo + 1) (.slice Ab 2 cb) := ⟨lo, co⟩
  have q0 : CAt w11 bn (on + 16) (.int .i64 5) := ⟨ln, n0⟩
  have q1 : CAt w11 bn (on + 17) (.int .i64 2) := ⟨ln, n1⟩
  have q2 : CAt w11 bn (on + 18) (.int .i64 2) := ⟨ln, n2⟩
  have q3 : CAt w11 bn (on + 19) (.int .i64 0) := ⟨ln, n3⟩
  have his3 : Is _ Ab 2 [2, 4] := hbi
  clear lo co hbi ln n0 n1 n2 n3
  clear hf
  have zfc0 := zf.2 0 _ rfl
  have zfc1 := zf.2 1 _ rfl
  have zfc2 := zf.2 2 _ rfl
  have qoc := qo.c
  have q0c := q0.c
  have q1c := q1.c
  have q2c := q2.c
  have q3c := q3.c
  go_wp2_with fail
  clear zfc0 zfc1 zfc2 qoc q0c q1c q2c q3c
  obtain ⟨w12, e_w12⟩ : ∃ w', w11.alloc (.cells #[.int .i64 2, .int .i64 4] 3) = w' := ⟨_, rfl⟩
  have b : Below w11.heap.size w11 w12 := e_w12 ▸ below_lit _ _
  have hs_w12 : w12.heap.size = w11.heap.size + 1 := e_w12 ▸ size_lit w11 _ rfl
  have li : Bx w12 w11.heap.size [.int .i64 2, .int .i64 4] := e_w12 ▸ Bx.made_k w11 rfl #[.int .i64 2, .int .i64 4] 3
  rw [e_w12]
  clear e_w12
  replace zf := zf.on b
  replace qo := qo.on b
  replace q0 := q0.on b
  replace q1 := q1.on b
  replace q2 := q2.on b
  replace q3 := q3.on b
  replace his3 := his3.on b
  replace BW := Below.step BW b
  clear b
  clear hs_w12
  refine (rints_as his3 (Bx.is (L := [2, 4]) li) (by omega) true (by rfl)).mono ?_
  rintro en w13 ⟨rfl, b⟩
  replace zf := zf.on b
  replace qo := qo.on b
  replace q0 := q0.on b
  replace q1 := q1.on b
  replace q2 := q2.on b
  replace q3 := q3.on b
  replace his3 := his3.on b
  replace li := li.on b
  replace BW := Below.step BW b
  clear b
  clear li his3
  have ez : sameN ⟨5, 2, 2, 0⟩ ⟨5, 2, 2, 0⟩ = true := rfl
  have ey : sameN ⟨4, 3, 4, 0⟩ ⟨4, 3, 4, 0⟩ = true := rfl
  have zfc0 := zf.2 0 _ rfl
  have zfc1 := zf.2 1 _ rfl
  have zfc2 := zf.2 2 _ rfl
  have qoc := qo.c
  have q0c := q0.c
  have q1c := q1.c
  have q2c := q2.c
  have q3c := q3.c
  go_wp2_with fail
  refine (key_as (k := 4) (a := 4) (b := 3) (c := 0) (k2 := 4) (a2 := 3) (b2 := 4) (c2 := 0) (by kernel_rfl) _).mono ?_
  rintro en w14 ⟨rfl, b⟩
  clear zfc0 zfc1 zfc2 qoc q0c q1c q2c q3c
  replace zf := zf.on b
  replace qo := qo.on b
  replace q0 := q0.on b
  replace q1 := q1.on b
  replace q2 := q2.on b
  replace q3 := q3.on b
  replace BW := Below.step BW b
  clear b
  go_wp2_with fail
  refine (key_as (k := 6) (a := 4) (b := 3) (c := 0) (k2 := 6) (a2 := 4) (b2 := 3) (c2 := 0) (by kernel_rfl) _).mono ?_
  rintro en w15 ⟨rfl, b⟩
  replace zf := zf.on b
  replace qo := qo.on b
  replace q0 := q0.on b
  replace q1 := q1.on b
  replace q2 := q2.on b
  replace q3 := q3.on b
  replace BW := Below.step BW b
  clear b
  go_wp2_with fail
  go_ret
  exact ⟨rfl, BW⟩
end Go.Proofs.Ytcehklnonhalhaa
namespace Go.Proofs.Ytcehklnonhalhaa
open Go.RowKit
set_option linter.unusedVariables false
set_option maxRecDepth 4000

set_option maxRecDepth 20000 in
set_option maxHeartbeats 8000000 in
theorem shareSame_as {An Ai Ao : Option Addr} {nn cn ni ci no co : Nat} {N : List Nd} {I O : List Pt} {w : World} (h : NetIn w An nn cn Ai ni ci Ao no co N I O) {As : Option Addr} {ns cs : Nat} {T : List (Sm × List Sn)} (hs : NnE 1048576 w As ns T) (hns : ns ≤ 1048576) :
    Calls Try.prog 5 #[.agg #[.slice An nn cn, .slice Ai ni ci, .slice Ao no co], .slice As ns cs] w fun en w' => en = .returned (.bool true) ∧ Below w.heap.size w w' := by
  go_enter Try.func5, Try.ntmps5
  go_upto_region 1 with fail
  obtain ⟨w1, e_w1⟩ : ∃ w', w.alloc (.cells #[.slice An nn cn, .slice Ai ni ci, .slice Ao no co] 25) = w' := ⟨_, rfl⟩
  have z0 : Bx w1 w.heap.size [.slice An nn cn, .slice Ai ni ci, .slice Ao no co] := e_w1 ▸ Bx.made_k w rfl #[.slice An nn cn, .slice Ai ni ci, .slice Ao no co] 25
  have BW : Below w.heap.size w w1 := e_w1 ▸ below_lit _ _
  rw [e_w1]
  clear e_w1
  replace h := h.on BW
  replace hs := hs.on BW
  go_wp2_with fail
  refine (awake10_any _).mono ?_
  rintro en w2 ⟨rfl, b⟩
  replace h := h.on b
  replace hs := hs.on b
  replace z0 := z0.on b
  replace BW := Below.step BW b
  clear b
  go_upto_region 3 with fail
  have bd : Below w2.heap.size w2 w2.drew := (Below.refl _ _).drew
  replace h := h.on bd
  replace hs := hs.on bd
  replace z0 := z0.on bd
  replace BW := Lib.hid (Below.step BW bd)
  clear bd
  go_region_held3 (fun w' => w'.cell? ⟨w.heap.size, 0, none⟩ = some (.slice An nn cn) ∧ w'.cell? ⟨w.heap.size, 1, none⟩ = some (.slice Ai ni ci) ∧ w'.cell? ⟨w.heap.size, 2, none⟩ = some (.slice Ao no co))
    ((with_reducible exact bx3 z0))
    (first
      | (go_at_call 16
         (with_reducible refine (scriptE_as hs hns).mono ?_)
         rintro en w5 ⟨A5, c5, T5, rfl, hs5, hsnd, hscr, b⟩
         replace hsnd := Lib.hid hsnd
         replace hscr := Lib.hid hscr
         replace h := h.on b
         replace hs := hs.on b
         replace z0 := z0.on b
         replace BW := Lib.hid (Below.step BW.out b)
         clear b)
      | (go_at_call 15
         (with_reducible refine (large9_as h hs5 hns).mono ?_)
         rintro en w6 ⟨v, rfl, hv, b⟩
         replace hv := Lib.hid hv
         replace h := h.on b
         replace hs := hs.on b
         replace hs5 := hs5.on b
         replace z0 := z0.on b
         replace BW := Lib.hid (Below.step BW.out b)
         clear b))
  replace BW := BW.out
  cases v
  case true =>
    go_wp2_with fail
    go_ret
    exact ⟨rfl, BW⟩
  obtain ⟨hlg, hns20, hle5⟩ := hv.out rfl
  have hle : Le 1000 T := Le.same hs hs5 hsnd.out hle5
  obtain ⟨hn, hn60, hi66, ho66, hbb⟩ := h.nt hlg
  have HBB : Hid (∀ p ∈ I ++ O, p.bits.length ≤ 100000) := Lib.hid fun p hp => by have := (hbb p hp).1; omega
  have sn := h.sn
  have hs2 : NnB 30000 w6 As ns (scr T) := (hs.nb hle).le (by omega)
  have hsE := hs
  have hLE := Lib.hid hle
  clear h hlg hbb hv hle5 hs5 hsnd hscr hle hs
  obtain ⟨d, e, hl⟩ : ∃ d e, levelS N I O = (d, e) := ⟨_, _, rfl⟩
  have c0 := z0.2 0 _ rfl; have c1 := z0.2 1 _ rfl; have c2 := z0.2 2 _ rfl
  by_cases he : e = 0
  · subst he
    obtain ⟨dd, rfl⟩ := some_of9 hl
    obtain ⟨L, lx⟩ := lv_x hl
    have LX := Lib.hid lx
    have HLN := Lib.hid hn.n.1
    clear hl lx
    go_upto_region 6 with (go_at_call 23; (with_reducible refine (share_rw hn sn HBB.out LX.out).mono ?_); (rintro en w7 ⟨⟨Bn, dn, Bi, di, Bo, do', M, S, c, rfl, hrw, hf, sf⟩, b⟩; clear c0 c1 c2; replace hn := hn.on b; replace hs2 := hs2.on b; replace hsE := hsE.on b; replace z0 := z0.on b; replace BW := Below.step BW b; clear b))
    have hx := rw_all LX.out.lev LX.out.pos hrw (idx_lt LX.out.mem)
    have HX := Lib.hid hx
    obtain ⟨d2, hd2⟩ := hx.lev
    have HD2 := Lib.hid hd2
    have HFB : Hid (∀ p ∈ I ++ O.map (outF S), p.bits.length ≤ 100000) := Lib.hid fun p hp => by
      rcases List.mem_append.1 hp with hp | hp
      · exact HBB.out p (List.mem_append_left _ hp)
      · obtain ⟨q, hq, rfl⟩ := List.mem_map.1 hp
        unfold outF
        rw [List.length_map]
        exact HBB.out q (List.mem_append_right _ hq)
    have HF1 : Hid (N.all (formedS nn) = true ∧ (I ++ O).all (bitsS nn) = true) := Lib.hid (by rw [← HLN.out]; exact ⟨LX.out.fm, LX.out.bits⟩)
    have HF2 : Hid ((M.map (dffS S)).all (formedS nn) = true ∧ (I ++ O.map (outF S)).all (bitsS nn) = true) := Lib.hid (by have e := hf.n.1; rw [← e]; exact ⟨hx.fm, hx.bits⟩)
    clear hx hd2 hrw
    obtain ⟨f, hfa⟩ := LX.out.all
    obtain ⟨g, hga⟩ := HX.out.all
    have HFA := Lib.hid hfa
    have HGA := Lib.hid hga
    clear hfa hga
    have HRUN : Hid (∀ L L2, Odr N L → Odr (M.map (dffS S)) L2 → rrunX (M.map (dffS S)) I (O.map (outF S)) (nI L2) (scr T) = rrunX N I O (nI L) (scr T)) := Lib.hid (HX.out.run (scr T))
    obtain ⟨w1, e_w1⟩ : ∃ w', w7.alloc (.cells #[.slice Bn nn dn, .slice Bi ni di, .slice Bo no do'] 25) = w' := ⟨_, rfl⟩
    have b : Below w7.heap.size w7 w1 := e_w1 ▸ below_lit _ _
    have hs_w1 : w1.heap.size = w7.heap.size + 1 := e_w1 ▸ size_lit w7 _ rfl
    have zf : Bx w1 w7.heap.size [.slice Bn nn dn, .slice Bi ni di, .slice Bo no do'] := e_w1 ▸ Bx.made_k w7 rfl #[.slice Bn nn dn, .slice Bi ni di, .slice Bo no do'] 25
    rw [e_w1]
    clear e_w1
    replace hn := hn.on b
    replace hs2 := hs2.on b
    replace hsE := hsE.on b
    replace z0 := z0.on b
    replace hf := hf.on b
    replace BW := Below.step BW b
    clear b
    clear hs_w1
    go_upto_region 8 with fail
    replace BW := Lib.hid BW
    try dsimp only [List.append]
    refine LexG.region_plan LexG.below_ok 0 [0, 1, 2, 3, 4, 5, 6, 7, 8, 9, 10, 11, 12, 13, 14, 15, 16, 17, 18, 19] (by kernel_rfl) (by kernel_rfl) (by kernel_rfl) (by kernel_rfl) (by kernel_rfl) ?_
    dsimp only [LexG.pick, LexG.nth]
    have bd : Below w1.heap.size w1 w1.drew := (Below.refl _ _).drew
    replace hn := hn.on bd
    replace hs2 := hs2.on bd
    replace hsE := hsE.on bd
    replace z0 := z0.on bd
    replace hf := hf.on bd
    replace zf := zf.on bd
    replace BW := Lib.hid (Below.step BW.out bd)
    clear bd
    obtain ⟨w21, e_w⟩ : ∃ w', w1.drew = w' := ⟨_, rfl⟩
    rw [e_w] at hn hs2 hsE z0 hf zf BW ⊢
    clear e_w
    have lf0 := fun s : LexG.Wd (fun w w' => Below w.heap.size w w') w21 => (z0.on s.rel).n0
    have lf1 := fun s : LexG.Wd (fun w w' => Below w.heap.size w w') w21 => (z0.on s.rel).n1
    have lf2 := fun s : LexG.Wd (fun w w' => Below w.heap.size w w') w21 => (z0.on s.rel).n2
    have lf3 := fun s : LexG.Wd (fun w w' => Below w.heap.size w w') w21 => (zf.on s.rel).n0
    have lf4 := fun s : LexG.Wd (fun w w' => Below w.heap.size w w') w21 => (zf.on s.rel).n1
    have lf5 := fun s : LexG.Wd (fun w w' => Below w.heap.size w w') w21 => (zf.on s.rel).n2
    refine LexG.lex_plain 1 (by kernel_rfl) ?_
    dsimp only [List.take, List.drop]
    repeat go_big_quiet_step (fail)
    refine wpQuiet_nil ?_
    clear lf0 lf1 lf2 lf3 lf4 lf5
    refine LexG.lex_call (by kernel_rfl) (by kernel_rfl) (fun K hK => ?_)
    go_simp
    refine (check_as hf HD2.out).mono ?_
    rintro en w22 ⟨rfl, b⟩
    dsimp only
    refine hK _ _ b ?_
    clear hK K
    replace hn := hn.on b
    replace hs2 := hs2.on b
    replace hsE := hsE.on b
    replace z0 := z0.on b
    replace hf := hf.on b
    replace zf := zf.on b
    replace BW := Lib.hid (Below.step BW.out b)
    clear b
    have lf0 := fun s : LexG.Wd (fun w w' => Below w.heap.size w w') w22 => (z0.on s.rel).n0
    have lf1 := fun s : LexG.Wd (fun w w' => Below w.heap.size w w') w22 => (z0.on s.rel).n1
    have lf2 := fun s : LexG.Wd (fun w w' => Below w.heap.size w w') w22 => (z0.on s.rel).n2
    have lf3 := fun s : LexG.Wd (fun w w' => Below w.heap.size w w') w22 => (zf.on s.rel).n0
    have lf4 := fun s : LexG.Wd (fun w w' => Below w.heap.size w w') w22 => (zf.on s.rel).n1
    have lf5 := fun s : LexG.Wd (fun w w' => Below w.heap.size w w') w22 => (zf.on s.rel).n2
    refine LexG.lex_plain 14 (by kernel_rfl) ?_
    dsimp only [List.take, List.drop]
    repeat go_big_quiet_step (fail)
    refine wpQuiet_nil ?_
    clear lf0 lf1 lf2 lf3 lf4 lf5
    refine LexG.lex_call (by kernel_rfl) (by kernel_rfl) (fun K hK => ?_)
    go_simp
    refine (scriptE_as hsE hns).mono ?_
    rintro en w23 ⟨A8, c8, T8, rfl, hs8, hsnd, hscr, b⟩
    dsimp only
    refine hK _ _ b ?_
    clear hK K
    replace hn := hn.on b
    replace hs2 := hs2.on b
    replace hsE := hsE.on b
    replace z0 := z0.on b
    replace hf := hf.on b
    replace zf := zf.on b
    replace BW := Lib.hid (Below.step BW.out b)
    clear b
    replace hsnd := Lib.hid hsnd
    replace hscr := Lib.hid hscr
    have hs9 := (hs8.nb (Le.same hs8 hsE hsnd.out.symm hLE.out)).le (show 1000 ≤ 30000 by omega)
    rw [hscr.out] at hs9
    refine LexG.lex_call (by kernel_rfl) (by kernel_rfl) (fun K hK => ?_)
    go_simp
    refine (alike_as hn hf HBB.out HFB.out HF1.out.1 HF1.out.2 HF2.out.1 HF2.out.2 HFA.out HGA.out (Pa.self I) (outF_pa S O) hs9 (by omega) HRUN.out).mono ?_
    rintro en w24 ⟨rfl, b⟩
    dsimp only
    refine hK _ _ b ?_
    clear hK K
    replace hn := hn.on b
    replace hs2 := hs2.on b
    replace hsE := hsE.on b
    replace z0 := z0.on b
    replace hf := hf.on b
    replace zf := zf.on b
    replace hs8 := hs8.on b
    replace BW := Lib.hid (Below.step BW.out b)
    clear b
    clear hs9
    have lf0 := fun s : LexG.Wd (fun w w' => Below w.heap.size w w') w24 => (z0.on s.rel).n0
    have lf1 := fun s : LexG.Wd (fun w w' => Below w.heap.size w w') w24 => (z0.on s.rel).n1
    have lf2 := fun s : LexG.Wd (fun w w' => Below w.heap.size w w') w24 => (z0.on s.rel).n2
    have lf3 := fun s : LexG.Wd (fun w w' => Below w.heap.size w w') w24 => (zf.on s.rel).n0
    have lf4 := fun s : LexG.Wd (fun w w' => Below w.heap.size w w') w24 => (zf.on s.rel).n1
    have lf5 := fun s : LexG.Wd (fun w w' => Below w.heap.size w w') w24 => (zf.on s.rel).n2
    refine LexG.lex_plain 2 (by kernel_rfl) ?_
    dsimp only [List.take, List.drop]
    repeat go_big_quiet_step (fail)
    refine wpQuiet_nil ?_
    clear lf0 lf1 lf2 lf3 lf4 lf5
    refine LexG.lex_nil ?_
    dsimp only [NoPanic]
    go_wp2_with fail
    go_ret
    exact ⟨rfl, BW.out⟩
  · have d0 : (e != 0) = true := by simpa using he
    have HL := Lib.hid hl
    have e2 : (e == e) = true := by simp
    clear hl he
    go_upto_region 6 with (go_at_call 23; (with_reducible refine (share_no hn HL.out d0).mono ?_); (rintro en w7 ⟨rfl, b⟩; clear c0 c1 c2; replace hn := hn.on b; replace z0 := z0.on b; replace BW := Below.step BW b; clear b))
    obtain ⟨w8, e_w8⟩ : ∃ w', w7.alloc (.cells #[.slice none 0 0, .slice none 0 0, .slice none 0 0] 25) = w' := ⟨_, rfl⟩
    have zf : Bx w8 w7.heap.size [.slice none 0 0, .slice none 0 0, .slice none 0 0] := e_w8 ▸ Bx.made_k w7 rfl #[.slice none 0 0, .slice none 0 0, .slice none 0 0] 25
    have b : Below w7.heap.size w7 w8 := e_w8 ▸ below_lit _ _
    rw [e_w8]
    clear e_w8
    replace hn := hn.on b
    replace z0 := z0.on b
    replace BW := Below.step BW b
    clear b
    have c0 := z0.2 0 _ rfl; have c1 := z0.2 1 _ rfl; have c2 := z0.2 2 _ rfl
    go_wp2_with fail
    refine (check_as hn HL.out).mono ?_
    rintro en w9 ⟨rfl, b⟩
    clear c0 c1 c2
    replace zf := zf.on b
    replace BW := Below.step BW b
    have c0 := zf.2 0 _ rfl
    go_wp2_with fail
    go_ret
    exact ⟨rfl, BW⟩
end Go.Proofs.Ytcehklnonhalhaa
