
/-
  Layer 6: the laws' awake is true.
-/
import Derived.Test.YtcmdfkmjbfppgaaGca
import Derived.Test.YtcmdfkmjbfppgaaGt
namespace Go.Proofs.Ytcmdfkmjbfppgaa
open Go.RowKit
set_option linter.unusedVariables false
set_option maxRecDepth 4000

set_option maxRecDepth 20000 in
set_option maxHeartbeats 8000000 in
theorem awake6_any (w : World) : Calls Try.prog 7 #[] w fun en w' => en = .returned (.bool true) ∧ Below w.heap.size w w' := by
  go_enter Try.func7, Try.ntmps7
  go_upto_region 2 with fail
  obtain ⟨w1, e_w1⟩ : ∃ w', w.alloc (.cells #[.int .i64 1, .int .i64 0, .int .i64 0, .int .i64 0, .int .i64 1, .int .i64 0, .int .i64 0, .int .i64 0, .int .i64 3, .int .i64 0, .int .i64 1, .int .i64 0, .int .i64 2, .int .i64 2, .int .i64 0, .int .i64 0, .int .i64 7, .int .i64 3, .int .i64 1, .int .i64 0] 38) = w' := ⟨_, rfl⟩
  have b : Below w.heap.size w w1 := e_w1 ▸ below_lit _ _
  have hs_w1 : w1.heap.size = w.heap.size + 1 := e_w1 ▸ size_lit w _ rfl
  have xn : Bx w1 w.heap.size [.int .i64 1, .int .i64 0, .int .i64 0, .int .i64 0, .int .i64 1, .int .i64 0, .int .i64 0, .int .i64 0, .int .i64 3, .int .i64 0, .int .i64 1, .int .i64 0, .int .i64 2, .int .i64 2, .int .i64 0, .int .i64 0, .int .i64 7, .int .i64 3, .int .i64 1, .int .i64 0] := e_w1 ▸ Bx.made_k w rfl #[.int .i64 1, .int .i64 0, .int .i64 0, .int .i64 0, .int .i64 1, .int .i64 0, .int .i64 0, .int .i64 0, .int .i64 3, .int .i64 0, .int .i64 1, .int .i64 0, .int .i64 2, .int .i64 2, .int .i64 0, .int .i64 0, .int .i64 7, .int .i64 3, .int .i64 1, .int .i64 0] 38
  rw [e_w1]
  clear e_w1
  have BW := b
  clear b
  obtain ⟨w2, e_w2⟩ : ∃ w', w1.alloc (.cells #[.int .i64 0, .int .i64 1] 3) = w' := ⟨_, rfl⟩
  have b : Below w1.heap.size w1 w2 := e_w2 ▸ below_lit _ _
  have hs_w2 : w2.heap.size = (w.heap.size + 1) + 1 := e_w2 ▸ size_lit w1 _ hs_w1
  have xa : Bx w2 (w.heap.size + 1) [.int .i64 0, .int .i64 1] := e_w2 ▸ Bx.made_k w1 hs_w1 #[.int .i64 0, .int .i64 1] 3
  rw [e_w2]
  clear e_w2
  replace xn := xn.on b
  replace BW := Below.step BW b
  clear b
  obtain ⟨w3, e_w3⟩ : ∃ w', w2.alloc (.cells #[.string ⟨#[97]⟩, .slice (some ⟨(w.heap.size + 1), 0, none⟩) 2 2] 49) = w' := ⟨_, rfl⟩
  have b : Below w2.heap.size w2 w3 := e_w3 ▸ below_lit _ _
  have hs_w3 : w3.heap.size = ((w.heap.size + 1) + 1) + 1 := e_w3 ▸ size_lit w2 _ hs_w2
  have xi : Bx w3 ((w.heap.size + 1) + 1) [.string ⟨#[97]⟩, .slice (some ⟨(w.heap.size + 1), 0, none⟩) 2 2] := e_w3 ▸ Bx.made_k w2 hs_w2 #[.string ⟨#[97]⟩, .slice (some ⟨(w.heap.size + 1), 0, none⟩) 2 2] 49
  rw [e_w3]
  clear e_w3
  replace xn := xn.on b
  replace xa := xa.on b
  replace BW := Below.step BW b
  clear b
  obtain ⟨w4, e_w4⟩ : ∃ w', w3.alloc (.cells #[.int .i64 4, .int .i64 2] 3) = w' := ⟨_, rfl⟩
  have b : Below w3.heap.size w3 w4 := e_w4 ▸ below_lit _ _
  have hs_w4 : w4.heap.size = (((w.heap.size + 1) + 1) + 1) + 1 := e_w4 ▸ size_lit w3 _ hs_w3
  have xb : Bx w4 (((w.heap.size + 1) + 1) + 1) [.int .i64 4, .int .i64 2] := e_w4 ▸ Bx.made_k w3 hs_w3 #[.int .i64 4, .int .i64 2] 3
  rw [e_w4]
  clear e_w4
  replace xn := xn.on b
  replace xa := xa.on b
  replace xi := xi.on b
  replace BW := Below.step BW b
  clear b
  obtain ⟨w5, e_w5⟩ : ∃ w', w4.alloc (.cells #[.string ⟨#[122]⟩, .slice (some ⟨(((w.heap.size + 1) + 1) + 1), 0, none⟩) 2 2] 49) = w' := ⟨_, rfl⟩
  have b : Below w4.heap.size w4 w5 := e_w5 ▸ below_lit _ _
  have hs_w5 : w5.heap.size = ((((w.heap.size + 1) + 1) + 1) + 1) + 1 := e_w5 ▸ size_lit w4 _ hs_w4
  have xo : Bx w5 ((((w.heap.size + 1) + 1) + 1) + 1) [.string ⟨#[122]⟩, .slice (some ⟨(((w.heap.size + 1) + 1) + 1), 0, none⟩) 2 2] := e_w5 ▸ Bx.made_k w4 hs_w4 #[.string ⟨#[122]⟩, .slice (some ⟨(((w.heap.size + 1) + 1) + 1), 0, none⟩) 2 2] 49
  rw [e_w5]
  clear e_w5
  replace xn := xn.on b
  replace xa := xa.on b
  replace xi := xi.on b
  replace xb := xb.on b
  replace BW := Below.step BW b
  clear b
  obtain ⟨w6, e_w6⟩ : ∃ w', w5.alloc (.cells #[.slice (some ⟨w.heap.size, 0, none⟩) 5 5, .slice (some ⟨((w.heap.size + 1) + 1), 0, none⟩) 1 1, .slice (some ⟨((((w.heap.size + 1) + 1) + 1) + 1), 0, none⟩) 1 1] 25) = w' := ⟨_, rfl⟩
  have b : Below w5.heap.size w5 w6 := e_w6 ▸ below_lit _ _
  have hs_w6 : w6.heap.size = (((((w.heap.size + 1) + 1) + 1) + 1) + 1) + 1 := e_w6 ▸ size_lit w5 _ hs_w5
  have zn : Bx w6 (((((w.heap.size + 1) + 1) + 1) + 1) + 1) [.slice (some ⟨w.heap.size, 0, none⟩) 5 5, .slice (some ⟨((w.heap.size + 1) + 1), 0, none⟩) 1 1, .slice (some ⟨((((w.heap.size + 1) + 1) + 1) + 1), 0, none⟩) 1 1] := e_w6 ▸ Bx.made_k w5 hs_w5 #[.slice (some ⟨w.heap.size, 0, none⟩) 5 5, .slice (some ⟨((w.heap.size + 1) + 1), 0, none⟩) 1 1, .slice (some ⟨((((w.heap.size + 1) + 1) + 1) + 1), 0, none⟩) 1 1] 25
  rw [e_w6]
  clear e_w6
  replace xn := xn.on b
  replace xa := xa.on b
  replace xi := xi.on b
  replace xb := xb.on b
  replace xo := xo.on b
  replace BW := Below.step BW b
  clear b
  have h : Nt w6 (some ⟨w.heap.size, 0, none⟩) 5 5 (some ⟨((w.heap.size + 1) + 1), 0, none⟩) 1 1 (some ⟨((((w.heap.size + 1) + 1) + 1) + 1), 0, none⟩) 1 1 N0 I0 O0 := ⟨Bx.ns (L := N0) xn, xi.ps1 (Bx.is (L := [0, 1]) xa) ⟨by omega, fun e => by cases e⟩ (by unfold maxLen; omega), xo.ps1 (Bx.is (L := [4, 2]) xb) ⟨by omega, fun e => by cases e⟩ (by unfold maxLen; omega), Sw.one _ _ (by omega), Sw.one _ _ (by omega), by omega, by omega, fun p hp => by simp [I0, O0] at hp; rcases hp with rfl | rfl <;> simp⟩
  clear xn xa xi xb xo
  clear hs_w1 hs_w2 hs_w3 hs_w4 hs_w5 hs_w6
  obtain ⟨a5, ha5⟩ : ∃ a, (((((w.heap.size + 1) + 1) + 1) + 1) + 1) = a := ⟨_, rfl⟩
  rw [ha5] at zn ⊢
  clear ha5
  obtain ⟨a4, ha4⟩ : ∃ a, ((((w.heap.size + 1) + 1) + 1) + 1) = a := ⟨_, rfl⟩
  rw [ha4] at h zn ⊢
  clear ha4
  obtain ⟨a3, ha3⟩ : ∃ a, (((w.heap.size + 1) + 1) + 1) = a := ⟨_, rfl⟩
  rw [ha3] at ⊢
  clear ha3
  obtain ⟨a2, ha2⟩ : ∃ a, ((w.heap.size + 1) + 1) = a := ⟨_, rfl⟩
  rw [ha2] at h zn ⊢
  clear ha2
  obtain ⟨a1, ha1⟩ : ∃ a, (w.heap.size + 1) = a := ⟨_, rfl⟩
  rw [ha1] at ⊢
  clear ha1
  have znc0 := zn.2 0 _ rfl
  have znc1 := zn.2 1 _ rfl
  have znc2 := zn.2 2 _ rfl
  go_wp2_with fail
  refine (levels_as h ls_N0).mono ?_
  rintro en w7 ⟨A1, m1, c1, rfl, hi1, _, b⟩
  clear znc0 znc1 znc2
  replace zn := zn.on b
  replace h := h.on b
  replace BW := Below.step BW b
  clear b
  have znc0 := zn.2 0 _ rfl
  have znc1 := zn.2 1 _ rfl
  have znc2 := zn.2 2 _ rfl
  go_wp2_with fail
  refine (depth_as h ls_N0 2 mo_N0).mono ?_
  rintro en w8 ⟨rfl, b⟩
  clear znc0 znc1 znc2
  replace zn := zn.on b
  replace h := h.on b
  replace hi1 := hi1.on b
  replace BW := Below.step BW b
  clear b
  have znc0 := zn.2 0 _ rfl
  have znc1 := zn.2 1 _ rfl
  have znc2 := zn.2 2 _ rfl
  go_wp2_with fail
  refine (order_as h ls_N0).mono ?_
  rintro en w9 ⟨A2, m2, c2, rfl, hi2, _, b⟩
  clear znc0 znc1 znc2
  replace zn := zn.on b
  replace h := h.on b
  replace hi1 := hi1.on b
  replace BW := Below.step BW b
  clear b
  rw [or_N0] at hi2
  have znc0 := zn.2 0 _ rfl
  have znc1 := zn.2 1 _ rfl
  have znc2 := zn.2 2 _ rfl
  go_wp2_with fail
  have hC := h; have hi1C := hi1; have hi2C := hi2; have znC := zn; have BWC := BW
  refine (clone_as h (Sw.one _ _ (by omega)) (fun p hp => by simp [I0, O0] at hp; rcases hp with rfl | rfl <;> simp)).mono ?_
  rintro en w10 ⟨Bn, dn, Bi, di, Bo, do', sg, rfl, hrow, hgs, swn, hpi, swi, hpo, swo, b⟩
  clear znc0 znc1 znc2
  have BC := b
  replace zn := zn.on b
  replace h := h.on b
  replace hi1 := hi1.on b
  replace hi2 := hi2.on b
  replace BW := Below.step BW b
  clear b
  obtain ⟨hb, rfl, hb1, hb2⟩ : ∃ hb, Bn = some ⟨hb, 0, none⟩ ∧ w9.heap.size ≤ hb ∧ hb < w10.heap.size := by
    rcases row_own hrow with ⟨_, h5, _⟩ | ⟨b, e, h1, h2⟩
    · cases h5
    · exact ⟨b, e, h1, h2⟩
  have hbs : hb < sg := hgs hb rfl
  go_upto_region 6 with fail
  obtain ⟨w11, e_w11⟩ : ∃ w', w10.alloc (.cells #[.slice (some ⟨hb, 0, none⟩) 5 dn, .slice Bi 1 di, .slice Bo 1 do'] 25) = w' := ⟨_, rfl⟩
  have b : Below w10.heap.size w10 w11 := e_w11 ▸ below_lit _ _
  have hs_w11 : w11.heap.size = w10.heap.size + 1 := e_w11 ▸ size_lit w10 _ rfl
  have zc : Bx w11 w10.heap.size [.slice (some ⟨hb, 0, none⟩) 5 dn, .slice Bi 1 di, .slice Bo 1 do'] := e_w11 ▸ Bx.made_k w10 rfl #[.slice (some ⟨hb, 0, none⟩) 5 dn, .slice Bi 1 di, .slice Bo 1 do'] 25
  rw [e_w11]
  clear e_w11
  replace zn := zn.on b
  replace h := h.on b
  replace hi1 := hi1.on b
  replace hi2 := hi2.on b
  replace hrow := row_on hrow b
  replace hpi := hpi.on b
  replace hpo := hpo.on b
  replace BW := Below.step BW b
  replace BC := Below.step BC b
  clear b
  have hbz : hb ≠ w10.heap.size := by omega
  clear hs_w11
  have hc : Nt w11 (some ⟨hb, 0, none⟩) 5 dn Bi 1 di Bo 1 do' N0 I0 O0 := by
    obtain ⟨A', c', q0, _, _, q1⟩ := row_ns hrow
    injection q0 with qa qb qc
    subst qa qc
    exact ⟨q1, hpi.ps, hpo.ps, swi, swo, by omega, by omega, fun p hp => by simp [I0, O0] at hp; rcases hp with rfl | rfl <;> simp⟩
  have znc0 := zn.2 0 _ rfl
  have znc1 := zn.2 1 _ rfl
  have znc2 := zn.2 2 _ rfl
  have zcc0 := zc.2 0 _ rfl
  have zcc1 := zc.2 1 _ rfl
  have zcc2 := zc.2 2 _ rfl
  go_wp2_with fail
  refine (same_as hc h true sm_N0).mono ?_
  rintro en w12 ⟨rfl, b⟩
  clear znc0 znc1 znc2 zcc0 zcc1 zcc2
  replace zn := zn.on b
  replace h := h.on b
  replace hi1 := hi1.on b
  replace hi2 := hi2.on b
  replace hrow := row_on hrow b
  replace hpi := hpi.on b
  replace hpo := hpo.on b
  replace zc := zc.on b
  replace hc := hc.on b
  replace BW := Below.step BW b
  replace BC := Below.step BC b
  clear b
  clear hc
  have zcc0 := zc.2 0 _ rfl
  have zcc1 := zc.2 1 _ rfl
  have zcc2 := zc.2 2 _ rfl
  have oc := hrow.cellAt 9 (by omega)
  have fc := hrow.frozenAt 9
  replace oc := oc.trans (show _ = some (.int .i64 0) from rfl)
  obtain ⟨hrow2, G⟩ := hrow.stored 9 (.int .i64 3)
  replace zc := zc.far G hbz.symm
  replace hpi := hpi.far G hbs
  replace hpo := hpo.far G hbs
  have BS := BC.setCell (p := ⟨hb, 9, none⟩) hb1 (.int .i64 3)
  replace BW := Below.step BWC BS
  replace h := hC.on BS; replace hi1 := hi1C.on BS; replace hi2 := hi2C.on BS; replace zn := znC.on BS
  clear hrow BC G hC hi1C hi2C znC BWC
  have BC := BS
  clear BS
  have hrow := hrow2
  clear hrow2
  go_wp2_with fail
  have BWS := BW.size
  obtain ⟨w13, e_w13⟩ : ∃ w', w12.setCell ⟨hb, 9, none⟩ (.int .i64 3) = w' := ⟨_, rfl⟩
  clear oc fc BWS zcc0 zcc1 zcc2
  have hs_S : w13.heap.size = w12.heap.size := by rw [← e_w13]; simp
  rw [e_w13] at h hi1 hi2 zn zc hpi hpo hrow BW BC ⊢
  clear e_w13
  have hc : Nt w13 (some ⟨hb, 0, none⟩) 5 dn Bi 1 di Bo 1 do' N1 I0 O0 := by
    obtain ⟨A', c', q0, _, _, q1⟩ := row_ns (R := N1) hrow
    injection q0 with qa qb qc
    subst qa qc
    exact ⟨q1, hpi.ps, hpo.ps, swi, swo, by omega, by omega, fun p hp => by simp [I0, O0] at hp; rcases hp with rfl | rfl <;> simp⟩
  clear hrow hpi hpo
  obtain ⟨w14, e_w14⟩ : ∃ w', w13.alloc (.cells #[.int .i64 0, .int .i64 0, .int .i64 1, .int .i64 2, .int .i64 0] 3) = w' := ⟨_, rfl⟩
  have b : Below w13.heap.size w13 w14 := e_w14 ▸ below_lit _ _
  have hs_w14 : w14.heap.size = w12.heap.size + 1 := e_w14 ▸ size_lit w13 _ hs_S
  have xl : Bx w14 w12.heap.size [.int .i64 0, .int .i64 0, .int .i64 1, .int .i64 2, .int .i64 0] := e_w14 ▸ Bx.made_k w13 hs_S #[.int .i64 0, .int .i64 0, .int .i64 1, .int .i64 2, .int .i64 0] 3
  rw [e_w14]
  clear e_w14
  replace zn := zn.on b
  replace h := h.on b
  replace hi1 := hi1.on b
  replace hi2 := hi2.on b
  replace zc := zc.on b
  replace hc := hc.on b
  replace BW := Below.step BW b
  replace BC := Below.step BC b
  clear b
  clear hs_w14
  have li := Bx.is (L := [0, 0, 1, 2, 0]) xl
  clear xl
  clear hs_S
  refine (rints_as hi1 li (by have := hi1.1; simp [ints] at this; omega) true (by rfl)).mono ?_
  rintro en w15 ⟨rfl, b⟩
  replace zn := zn.on b
  replace h := h.on b
  replace hi1 := hi1.on b
  replace hi2 := hi2.on b
  replace zc := zc.on b
  replace hc := hc.on b
  replace li := li.on b
  replace BW := Below.step BW b
  replace BC := Below.step BC b
  clear b
  clear li
  clear hi1
  go_wp2_with fail
  obtain ⟨w16, e_w16⟩ : ∃ w', w15.alloc (.cells #[.int .i64 0, .int .i64 1, .int .i64 4, .int .i64 2, .int .i64 3] 3) = w' := ⟨_, rfl⟩
  have b : Below w15.heap.size w15 w16 := e_w16 ▸ below_lit _ _
  have hs_w16 : w16.heap.size = w15.heap.size + 1 := e_w16 ▸ size_lit w15 _ rfl
  have xl : Bx w16 w15.heap.size [.int .i64 0, .int .i64 1, .int .i64 4, .int .i64 2, .int .i64 3] := e_w16 ▸ Bx.made_k w15 rfl #[.int .i64 0, .int .i64 1, .int .i64 4, .int .i64 2, .int .i64 3] 3
  rw [e_w16]
  clear e_w16
  replace zn := zn.on b
  replace h := h.on b
  replace hi2 := hi2.on b
  replace zc := zc.on b
  replace hc := hc.on b
  replace BW := Below.step BW b
  replace BC := Below.step BC b
  clear b
  clear hs_w16
  have li := Bx.is (L := [0, 1, 4, 2, 3]) xl
  clear xl
  refine (rints_as hi2 li (by have := hi2.1; simp at this; omega) true (by rfl)).mono ?_
  rintro en w17 ⟨rfl, b⟩
  replace zn := zn.on b
  replace h := h.on b
  replace hi2 := hi2.on b
  replace zc := zc.on b
  replace hc := hc.on b
  replace li := li.on b
  replace BW := Below.step BW b
  replace BC := Below.step BC b
  clear b
  clear li
  clear hi2
  have znc0 := zn.2 0 _ rfl
  have znc1 := zn.2 1 _ rfl
  have znc2 := zn.2 2 _ rfl
  go_wp2_with fail
  refine (check_as h ls_N0).mono ?_
  rintro en w18 ⟨rfl, b⟩
  clear znc0 znc1 znc2
  replace zn := zn.on b
  replace h := h.on b
  replace zc := zc.on b
  replace hc := hc.on b
  replace BW := Below.step BW b
  replace BC := Below.step BC b
  clear b
  have zcc0 := zc.2 0 _ rfl
  have zcc1 := zc.2 1 _ rfl
  have zcc2 := zc.2 2 _ rfl
  go_wp2_with fail
  refine (check_as hc ls_N1).mono ?_
  rintro en w19 ⟨rfl, b⟩
  clear zcc0 zcc1 zcc2
  replace zn := zn.on b
  replace h := h.on b
  replace zc := zc.on b
  replace hc := hc.on b
  replace BW := Below.step BW b
  replace BC := Below.step BC b
  clear b
  clear hc zc
  go_wp2_with fail
  obtain ⟨w20, e_w20⟩ : ∃ w', w19.alloc (.cells #[.int .i64 8, .int .i64 0, .int .i64 0, .int .i64 0] 38) = w' := ⟨_, rfl⟩
  have b : Below w19.heap.size w19 w20 := e_w20 ▸ below_lit _ _
  have hs_w20 : w20.heap.size = w19.heap.size + 1 := e_w20 ▸ size_lit w19 _ rfl
  have xl : Bx w20 w19.heap.size [.int .i64 8, .int .i64 0, .int .i64 0, .int .i64 0] := e_w20 ▸ Bx.made_k w19 rfl #[.int .i64 8, .int .i64 0, .int .i64 0, .int .i64 0] 38
  rw [e_w20]
  clear e_w20
  replace zn := zn.on b
  replace h := h.on b
  replace BW := Below.step BW b
  replace BC := Below.step BC b
  clear b
  clear hs_w20
  have h9 : Nt w20 (some ⟨w19.heap.size, 0, none⟩) 1 1 none 0 0 none 0 0 [⟨8, 0, 0, 0⟩] [] [] := ⟨Bx.ns (L := [⟨8, 0, 0, 0⟩]) xl, Ps.nil_, Ps.nil_, Sw.nil_, Sw.nil_, by omega, by omega, fun p hp => by cases hp⟩
  clear xl
  refine (check_as h9 ls_N2).mono ?_
  rintro en w21 ⟨rfl, b⟩
  replace zn := zn.on b
  replace h := h.on b
  replace BW := Below.step BW b
  replace BC := Below.step BC b
  clear b
  clear h9
  go_wp2_with fail
  refine (name_as _ true nm_1 _).mono ?_
  rintro en w22 ⟨rfl, b⟩
  replace zn := zn.on b
  replace h := h.on b
  replace BW := Below.step BW b
  replace BC := Below.step BC b
  clear b
  go_wp2_with fail
  refine (name_as _ false nm_2 _).mono ?_
  rintro en w23 ⟨rfl, b⟩
  replace zn := zn.on b
  replace h := h.on b
  replace BW := Below.step BW b
  replace BC := Below.step BC b
  clear b
  go_wp2_with fail
  refine (name_as _ false nm_3 _).mono ?_
  rintro en w24 ⟨rfl, b⟩
  replace zn := zn.on b
  replace h := h.on b
  replace BW := Below.step BW b
  replace BC := Below.step BC b
  clear b
  obtain ⟨bn, off, en, _, q1, q2, q3, q4⟩ := h.n.2 2 ⟨3, 0, 1, 0⟩ rfl
  cases en
  replace q1 : w24.cell? ⟨w.heap.size, 8, none⟩ = some (.int .i64 3) := q1
  replace q2 : w24.cell? ⟨w.heap.size, 9, none⟩ = some (.int .i64 0) := q2
  replace q3 : w24.cell? ⟨w.heap.size, 10, none⟩ = some (.int .i64 1) := q3
  replace q4 : w24.cell? ⟨w.heap.size, 11, none⟩ = some (.int .i64 0) := q4
  have znc0 := zn.2 0 _ rfl
  have znc1 := zn.2 1 _ rfl
  have znc2 := zn.2 2 _ rfl
  go_wp2_with fail
  refine (uses_as 3 0 1 0 _).mono ?_
  rintro en w25 ⟨A3, m3, c3, rfl, hi3, _, b⟩
  clear q1 q2 q3 q4 znc0 znc1 znc2
  replace zn := zn.on b
  replace h := h.on b
  replace BW := Below.step BW b
  replace BC := Below.step BC b
  clear b
  rw [us_N0] at hi3
  go_wp2_with fail
  obtain ⟨w26, e_w26⟩ : ∃ w', w25.alloc (.cells #[.int .i64 0, .int .i64 1] 3) = w' := ⟨_, rfl⟩
  have b : Below w25.heap.size w25 w26 := e_w26 ▸ below_lit _ _
  have hs_w26 : w26.heap.size = w25.heap.size + 1 := e_w26 ▸ size_lit w25 _ rfl
  have xl : Bx w26 w25.heap.size [.int .i64 0, .int .i64 1] := e_w26 ▸ Bx.made_k w25 rfl #[.int .i64 0, .int .i64 1] 3
  rw [e_w26]
  clear e_w26
  replace zn := zn.on b
  replace h := h.on b
  replace hi3 := hi3.on b
  replace BW := Below.step BW b
  replace BC := Below.step BC b
  clear b
  clear hs_w26
  have li := Bx.is (L := [0, 1]) xl
  clear xl
  refine (rints_as hi3 li (by have := hi3.1; simp at this; omega) true (by rfl)).mono ?_
  rintro en w27 ⟨rfl, b⟩
  replace zn := zn.on b
  replace h := h.on b
  replace hi3 := hi3.on b
  replace li := li.on b
  replace BW := Below.step BW b
  replace BC := Below.step BC b
  clear b
  clear li
  clear hi3
  have znc0 := zn.2 0 _ rfl
  have znc1 := zn.2 1 _ rfl
  have znc2 := zn.2 2 _ rfl
  go_wp2_with fail
  refine (counts_N0 h).mono ?_
  rintro en w28 ⟨rfl, b⟩
  clear znc0 znc1 znc2
  replace zn := zn.on b
  replace h := h.on b
  replace BW := Below.step BW b
  replace BC := Below.step BC b
  clear b
  go_wp2_with fail
  go_ret
  exact ⟨rfl, BW⟩
end Go.Proofs.Ytcmdfkmjbfppgaa
