
/-
  net: Counts.
-/
import Derived.Test.YtcmdfkmjbfppgaaGr
namespace Go.Proofs.Ytcmdfkmjbfppgaa
open Go.RowKit
set_option linter.unusedVariables false
set_option maxRecDepth 4000

/-- how many nodes there are of a kind. -/
def cntS (N : List Nd) (u : Nat) : Nat := N.countP fun x => decide (x.k = (u : Int))
theorem cnt_le (N : List Nd) (u : Nat) : cntS N u ≤ N.length := List.countP_le_length
theorem cnt_succ {N : List Nd} {j : Nat} {x : Nd} (hx : N[j]? = some x) (u : Nat) : cntS (N.take (j + 1)) u = cntS (N.take j) u + if x.k = (u : Int) then 1 else 0 := by
  unfold cntS
  rw [List.take_add_one, hx, List.countP_append]
  simp [List.countP_cons]
theorem rg8 (F : Nat → Nat) : rg F 8 = [(.int .i64 (F 0 : Nat)), (.int .i64 (F 1 : Nat)), (.int .i64 (F 2 : Nat)), (.int .i64 (F 3 : Nat)), (.int .i64 (F 4 : Nat)), (.int .i64 (F 5 : Nat)), (.int .i64 (F 6 : Nat)), (.int .i64 (F 7 : Nat))] := rfl
set_option maxHeartbeats 4000000 in
/-- COUNTS. -/
theorem counts_as {An Ai Ao : Option Addr} {nn cn ni ci no co : Nat} {N : List Nd} {I O : List Pt} {w : World} (h : Nt w An nn cn Ai ni ci Ao no co N I O) :
    Calls Try.prog 20 #[.agg #[.slice An nn cn, .slice Ai ni ci, .slice Ao no co]] w fun en w' => en = .returned (.agg #[(.int .i64 (cntS N 0 : Nat)), (.int .i64 (cntS N 1 : Nat)), (.int .i64 (cntS N 2 : Nat)), (.int .i64 (cntS N 3 : Nat)), (.int .i64 (cntS N 4 : Nat)), (.int .i64 (cntS N 5 : Nat)), (.int .i64 (cntS N 6 : Nat)), (.int .i64 (cntS N 7 : Nat))]) ∧ Below w.heap.size w w' := by
  have hn1 : nn ≤ 1000000 := by have := h.hn; omega
  go_enter Try.func20, Try.ntmps20
  go_upto_region 1 with fail
  obtain ⟨w1, e_w1⟩ : ∃ w', w.alloc (.cells #[.slice An nn cn, .slice Ai ni ci, .slice Ao no co] 25) = w' := ⟨_, rfl⟩
  have z0 : Bx w1 w.heap.size [.slice An nn cn, .slice Ai ni ci, .slice Ao no co] := e_w1 ▸ Bx.made_k w rfl #[.slice An nn cn, .slice Ai ni ci, .slice Ao no co] 25
  have b1 : Below w.heap.size w w1 := e_w1 ▸ below_lit _ _
  have hs1 : w1.heap.size = w.heap.size + 1 := e_w1 ▸ size_lit w _ rfl
  rw [e_w1]
  clear e_w1
  obtain ⟨s1, hs0⟩ : ∃ s1, w.heap.size + 1 = s1 := ⟨_, rfl⟩
  rw [hs0] at hs1 ⊢
  obtain ⟨w2, e_w2⟩ : ∃ w', w1.alloc (.cells #[.int .i64 0, .int .i64 0, .int .i64 0, .int .i64 0, .int .i64 0, .int .i64 0, .int .i64 0, .int .i64 0] 39) = w' := ⟨_, rfl⟩
  have ZR : Own w2 s1 39 (rg (fun _ => 0) 8) := by rw [← hs1]; exact e_w2 ▸ Own.made w1 39 [.int .i64 0, .int .i64 0, .int .i64 0, .int .i64 0, .int .i64 0, .int .i64 0, .int .i64 0, .int .i64 0]
  have b2 : Below w1.heap.size w1 w2 := e_w2 ▸ below_lit _ _
  have hs2 : w2.heap.size = s1 + 1 := e_w2 ▸ size_lit w1 _ hs1
  rw [e_w2]
  clear e_w2 hs1
  go_upto_region 2 with fail
  obtain ⟨w3, e_w3⟩ : ∃ w', w2.alloc (.cells #[.int .i64 0, .int .i64 0, .int .i64 0, .int .i64 0, .int .i64 0, .int .i64 0, .int .i64 0, .int .i64 0] 39) = w' := ⟨_, rfl⟩
  have ho : Own w3 (s1 + 1) 39 (rg (cntS (N.take 0)) 8) := by rw [← hs2]; exact e_w3 ▸ Own.made w2 39 [.int .i64 0, .int .i64 0, .int .i64 0, .int .i64 0, .int .i64 0, .int .i64 0, .int .i64 0, .int .i64 0]
  have b3 : Below w2.heap.size w2 w3 := e_w3 ▸ below_lit _ _
  rw [e_w3]
  clear e_w3 hs2
  replace ZR := ZR.below b3 ZR.lt
  obtain ⟨s2, hs2⟩ : ∃ s2, s1 + 1 = s2 := ⟨_, rfl⟩
  rw [hs2] at ho ⊢
  have hne1 : s1 ≠ s2 := by omega
  have hne2 : s2 ≠ s1 := by omega
  have hws : w.heap.size ≤ s2 := by omega
  have z0c0 := ((z0.on b2).on b3).2 0 _ rfl
  have BW := Below.step (Below.step b1 b2) b3
  clear z0 b1 b2 b3
  go_wp2_with fail
  go_loopw [9] (fun i wr => ∃ j : Nat, j ≤ nn ∧ i = .int .i64 j ∧ Own wr s1 39 (rg (fun _ => 0) 8) ∧ Own wr s2 39 (rg (cntS (N.take j)) 8) ∧ Below w.heap.size w wr) (fun i _ => nn - (intOf i).toNat)
  case atStart => exact ⟨0, Nat.zero_le _, rfl, ZR, ho, BW⟩
  case round =>
    clear ZR ho BW z0c0
    obtain ⟨j, hj, rfl, ZR, ho, BW⟩ := hrel
    by_cases hlt : j < nn
    · obtain ⟨b0, off, x1, x2, x3, x4, eA, HX, n1, n2, n3, n4⟩ := (h.n.on BW).at hlt
      subst eA
      go_upto_region 5 with fail
      obtain ⟨w4, e_w4⟩ : ∃ w', wr.alloc (.cells #[.int .i64 x1, .int .i64 x2, .int .i64 x3, .int .i64 x4] 38) = w' := ⟨_, rfl⟩
      have z : Bx w4 wr.heap.size [.int .i64 x1, .int .i64 x2, .int .i64 x3, .int .i64 x4] := e_w4 ▸ Bx.made_k wr rfl #[.int .i64 x1, .int .i64 x2, .int .i64 x3, .int .i64 x4] 38
      have b4 : Below wr.heap.size wr w4 := e_w4 ▸ below_lit _ _
      rw [e_w4]
      clear e_w4 n1 n2 n3 n4
      have zc0 := z.2 0 _ rfl
      have ZR4 := ZR.below b4 ZR.lt
      have ho4 := ho.below b4 ho.lt
      have BW4 := Below.step BW b4
      clear ZR ho BW b4
      obtain ⟨v, hv⟩ : ∃ v, kindS x1 = v := ⟨_, rfl⟩
      have HV := Lib.hid hv
      go_wp2_with fail
      refine (isKind_as x1 v HV.out _).mono ?_
      rintro e w5 ⟨rfl, b5⟩
      have ZR5 := ZR4.below b5 ZR4.lt
      have ho5 := ho4.below b5 ho4.lt
      have BW5 := Below.step BW4 b5
      replace z := z.on b5
      clear ZR4 ho4 BW4 zc0 b5
      cases v
      · have HE : Hid (rg (cntS (N.take j)) 8 = rg (cntS (N.take (j + 1))) 8) := Lib.hid (rg_congr fun u hu => by
          rw [cnt_succ HX.out, if_neg]
          · rfl
          · intro e
            unfold kindS at hv
            simp only [Bool.and_eq_false_iff, decide_eq_false_iff_not] at hv
            simp only [] at e
            omega)
        clear hv
        rw [HE.out] at ho5
        go_wp2_with fail
        go_roundw
        case rel => exact ⟨j + 1, by omega, by go_num, ZR5, ho5, BW5⟩
        case measure => simp [intOf]; omega
      · obtain ⟨u, rfl, hu⟩ : ∃ u : Nat, x1 = (u : Int) ∧ u < 8 := by
          unfold kindS at hv
          simp only [Bool.and_eq_true, decide_eq_true_eq] at hv
          exact ⟨x1.toNat, by omega, by omega⟩
        clear hv
        obtain ⟨c, hc⟩ : ∃ c, cntS (N.take j) u = c := ⟨_, rfl⟩
        have hcj : c ≤ 1000000 := by
          have h1 := cnt_le (N.take j) u
          rw [hc, List.length_take] at h1
          omega
        obtain ⟨c', hc'⟩ : ∃ c', c + 1 = c' := ⟨_, rfl⟩
        have oc := (ho5.cell u).trans (rg_at _ hu)
        rw [hc] at oc
        have of := ho5.free u
        have zc0 := z.2 0 _ rfl
        have e2 : (c : Int) + 1 = (c' : Int) := by omega
        have i0 : (0 : Int) ≤ (u : Int) := by omega
        have i1 : (u : Int) < 8 := by omega
        have ho6 := ho5.put u (.int .i64 (c' : Int))
        rw [rg_set (cntS (N.take j)) (cntS (N.take (j + 1))) (by rw [cnt_succ HX.out, if_pos rfl, hc]; exact hc') (fun v _ hne => by rw [cnt_succ HX.out, if_neg (by simp only []; omega)]; rfl)] at ho6
        have ZR6 := ZR5.apart hne1 u (.int .i64 (c' : Int))
        have BW6 := BW5.setCell (p := ⟨s2, u, none⟩) hws (.int .i64 (c' : Int))
        clear hc ZR5 ho5 BW5
        go_wp2_with fail
        go_roundw
        case rel => exact ⟨j + 1, by omega, by go_num, ZR6, ho6, BW6⟩
        case measure => simp [intOf]; omega
    · have e : N.take j = N := List.take_of_length_le (by rw [h.n.1]; omega)
      rw [e, rg8] at ho
      rw [rg8] at ZR
      have oc0 := ho.cell 0
      have oc1 := ho.cell 1
      have oc2 := ho.cell 2
      have oc3 := ho.cell 3
      have oc4 := ho.cell 4
      have oc5 := ho.cell 5
      have oc6 := ho.cell 6
      have oc7 := ho.cell 7
      have zc0 := ZR.cell 0
      have zf0 := ZR.free 0
      have zc1 := ZR.cell 1
      have zf1 := ZR.free 1
      have zc2 := ZR.cell 2
      have zf2 := ZR.free 2
      have zc3 := ZR.cell 3
      have zf3 := ZR.free 3
      have zc4 := ZR.cell 4
      have zf4 := ZR.free 4
      have zc5 := ZR.cell 5
      have zf5 := ZR.free 5
      have zc6 := ZR.cell 6
      have zf6 := ZR.free 6
      have zc7 := ZR.cell 7
      have zf7 := ZR.free 7
      simp only [List.getElem?_cons_succ, List.getElem?_cons_zero] at oc0 zc0 oc1 zc1 oc2 zc2 oc3 zc3 oc4 zc4 oc5 zc5 oc6 zc6 oc7 zc7
      have hw1 : w.heap.size ≤ s1 := by omega
      have VR := ((((((((ZR.put 0 (.int .i64 (cntS N 0 : Nat))).put 1 (.int .i64 (cntS N 1 : Nat))).put 2 (.int .i64 (cntS N 2 : Nat))).put 3 (.int .i64 (cntS N 3 : Nat))).put 4 (.int .i64 (cntS N 4 : Nat))).put 5 (.int .i64 (cntS N 5 : Nat))).put 6 (.int .i64 (cntS N 6 : Nat))).put 7 (.int .i64 (cntS N 7 : Nat)))
      have BW6 := ((((((((BW.setCell (p := ⟨s1, 0, none⟩) hw1 (.int .i64 (cntS N 0 : Nat))).setCell (p := ⟨s1, 1, none⟩) hw1 (.int .i64 (cntS N 1 : Nat))).setCell (p := ⟨s1, 2, none⟩) hw1 (.int .i64 (cntS N 2 : Nat))).setCell (p := ⟨s1, 3, none⟩) hw1 (.int .i64 (cntS N 3 : Nat))).setCell (p := ⟨s1, 4, none⟩) hw1 (.int .i64 (cntS N 4 : Nat))).setCell (p := ⟨s1, 5, none⟩) hw1 (.int .i64 (cntS N 5 : Nat))).setCell (p := ⟨s1, 6, none⟩) hw1 (.int .i64 (cntS N 6 : Nat))).setCell (p := ⟨s1, 7, none⟩) hw1 (.int .i64 (cntS N 7 : Nat)))
      clear ho ZR BW
      go_wp2_with fail
      have p0 := VR.cell 0
      have p1 := VR.cell 1
      have p2 := VR.cell 2
      have p3 := VR.cell 3
      have p4 := VR.cell 4
      have p5 := VR.cell 5
      have p6 := VR.cell 6
      have p7 := VR.cell 7
      refine bodyPost_ret (v := .agg #[(.int .i64 (cntS N 0 : Nat)), (.int .i64 (cntS N 1 : Nat)), (.int .i64 (cntS N 2 : Nat)), (.int .i64 (cntS N 3 : Nat)), (.int .i64 (cntS N 4 : Nat)), (.int .i64 (cntS N 5 : Nat)), (.int .i64 (cntS N 6 : Nat)), (.int .i64 (cntS N 7 : Nat))]) (by simp [results, Try.results20, go_sem, p0, p1, p2, p3, p4, p5, p6, p7]) rfl ?_
      exact ⟨rfl, BW6⟩
end Go.Proofs.Ytcmdfkmjbfppgaa
