
/-
  Layer 6: the walk of NetTells.
-/
import Derived.Test.YtcmdfkmjbfppgaaGcc
import Derived.Test.YtcmdfkmjbfppgaaGbf
namespace Go.Proofs.Ytcmdfkmjbfppgaa
open Go.RowKit
set_option linter.unusedVariables false
set_option maxRecDepth 4000

theorem comes_len {L : List Pt} {m n : Nat} (hm : L.length ≤ m) (h : ∀ p ∈ L, p.bits.length ≤ n) (k : Nat) : (comesS (L.take k)).length ≤ m * n := by
  unfold comesS
  rw [List.length_flatMap]
  have key : ∀ L : List Pt, (∀ p ∈ L, p.bits.length ≤ n) → ((L.map fun p => p.bits.length).sum) ≤ L.length * n := by
    intro L
    induction L with
    | nil => intro _; simp
    | cons p L ih =>
      intro h
      rw [List.map_cons, List.sum_cons, List.length_cons, Nat.add_mul, Nat.one_mul]
      have := ih fun q hq => h q (List.mem_cons_of_mem _ hq)
      have h2 := h p (List.mem_cons_self ..)
      omega
  have h1 := key (L.take k) fun p hp => h p (List.mem_of_mem_take hp)
  have h2 : (L.take k).length ≤ m := by rw [List.length_take]; omega
  exact Nat.le_trans h1 (Nat.mul_le_mul_right n h2)
theorem d_len {N : List Nd} {I O : List Pt} {d : Option (List Nat)} {e : Int} (hl : levelS N I O = (d, e)) : (d.getD []).length ≤ N.length := by
  have := ints_len hl
  unfold ints at this
  rwa [List.length_map] at this
theorem or_len {N : List Nd} {I O : List Pt} {d : Option (List Nat)} {e : Int} (hl : levelS N I O = (d, e)) : (ordO d).length ≤ N.length := by
  rw [ordO_is]
  unfold nI
  rw [List.length_map, ordU_len]
  exact Nat.le_trans (Cn_le_n _ _) (d_len hl)
set_option maxRecDepth 20000 in
set_option maxHeartbeats 8000000 in
theorem netTells_as {An Ai Ao : Option Addr} {nn cn ni ci no co : Nat} {N : List Nd} {I O : List Pt} {w : World} (h : NetIn w An nn cn Ai ni ci Ao no co N I O) :
    Calls Try.prog 3 #[.agg #[.slice An nn cn, .slice Ai ni ci, .slice Ao no co]] w fun en w' => en = .returned (.bool true) ∧ Below w.heap.size w w' := by
  go_enter Try.func3, Try.ntmps3
  go_upto_region 1 with fail
  obtain ⟨w1, e_w1⟩ : ∃ w', w.alloc (.cells #[.slice An nn cn, .slice Ai ni ci, .slice Ao no co] 25) = w' := ⟨_, rfl⟩
  have b : Below w.heap.size w w1 := e_w1 ▸ below_lit _ _
  have hs_w1 : w1.heap.size = w.heap.size + 1 := e_w1 ▸ size_lit w _ rfl
  have z0 : Bx w1 w.heap.size [.slice An nn cn, .slice Ai ni ci, .slice Ao no co] := e_w1 ▸ Bx.made_k w rfl #[.slice An nn cn, .slice Ai ni ci, .slice Ao no co] 25
  rw [e_w1]
  clear e_w1
  replace h := h.on b
  have BW := b
  clear b
  clear hs_w1
  go_wp2_with fail
  refine (awake6_any _).mono ?_
  rintro en w2 ⟨rfl, b⟩
  replace h := h.on b
  replace z0 := z0.on b
  replace BW := Below.step BW b
  clear b
  have z0c0 := z0.2 0 _ rfl
  have z0c1 := z0.2 1 _ rfl
  have z0c2 := z0.2 2 _ rfl
  go_wp2_with fail
  obtain ⟨v, hv⟩ : ∃ v, largeS nn ni no I O 60 = v := ⟨_, rfl⟩
  have HV := Lib.hid hv
  clear hv
  refine (h.large v HV.out).mono ?_
  rintro en w3 ⟨rfl, b⟩
  clear z0c0 z0c1 z0c2
  replace h := h.on b
  replace z0 := z0.on b
  replace BW := Below.step BW b
  clear b
  cases v
  case true =>
    go_wp2_with fail
    go_ret
    exact ⟨rfl, BW⟩
  obtain ⟨hn, hn60, hi66, ho66, hbb⟩ := h.nt HV.out
  have HNM : Hid (∀ p ∈ I ++ O, p.name.size ≤ 1000000) := Lib.hid fun p hp => by have := (hbb p hp).2; omega
  have HC : Hid (∀ k : Nat, (comesS (I.take k)).length ≤ 1000000) := Lib.hid fun k => by have := comes_len (m := 66) (n := 4000) (by rw [hn.i.1]; exact hi66) (fun p hp => (hbb p (List.mem_append_left _ hp)).1) k; omega
  obtain ⟨d, e, hl⟩ : ∃ d e, levelS N I O = (d, e) := ⟨_, _, rfl⟩
  have HL := Lib.hid hl
  have HD : Hid ((d.getD []).length ≤ 1000) := Lib.hid (by have := d_len hl; rw [hn.n.1] at this; omega)
  have HIL : Hid ((ints d).length ≤ 60) := Lib.hid (by have := ints_len hl; rw [hn.n.1] at this; omega)
  have HOL : Hid ((ordO d).length ≤ 60) := Lib.hid (by have := or_len hl; rw [hn.n.1] at this; omega)
  clear h
  clear hl hbb HV
  have z0c0 := z0.2 0 _ rfl
  have z0c1 := z0.2 1 _ rfl
  have z0c2 := z0.2 2 _ rfl
  go_wp2_with fail
  refine (rlevels_as hn HNM.out HC.out HL.out).mono ?_
  rintro en w4 ⟨A1, m1, c1, rfl, hi1, _, b⟩
  clear z0c0 z0c1 z0c2
  replace z0 := z0.on b
  replace hn := hn.on b
  replace BW := Below.step BW b
  clear b
  have z0c0 := z0.2 0 _ rfl
  have z0c1 := z0.2 1 _ rfl
  have z0c2 := z0.2 2 _ rfl
  go_wp2_with fail
  refine (levels_as hn HL.out).mono ?_
  rintro en w5 ⟨A2, m2, c2, rfl, hi2, _, b⟩
  clear z0c0 z0c1 z0c2
  replace z0 := z0.on b
  replace hn := hn.on b
  replace hi1 := hi1.on b
  replace BW := Below.step BW b
  clear b
  have z0c0 := z0.2 0 _ rfl
  have z0c1 := z0.2 1 _ rfl
  have z0c2 := z0.2 2 _ rfl
  go_wp2_with fail
  refine (order_as hn HL.out).mono ?_
  rintro en w6 ⟨A3, m3, c3, rfl, hi3, _, b⟩
  clear z0c0 z0c1 z0c2
  replace z0 := z0.on b
  replace hn := hn.on b
  replace hi1 := hi1.on b
  replace hi2 := hi2.on b
  replace BW := Below.step BW b
  clear b
  have z0c0 := z0.2 0 _ rfl
  have z0c1 := z0.2 1 _ rfl
  have z0c2 := z0.2 2 _ rfl
  go_wp2_with fail
  refine (rorder_as hn HNM.out HC.out HL.out HD.out).mono ?_
  rintro en w7 ⟨A4, m4, c4, rfl, hi4, _, b⟩
  clear z0c0 z0c1 z0c2
  replace z0 := z0.on b
  replace hn := hn.on b
  replace hi1 := hi1.on b
  replace hi2 := hi2.on b
  replace hi3 := hi3.on b
  replace BW := Below.step BW b
  clear b
  obtain ⟨v, hv⟩ : ∃ v, mostS (ints d) = v := ⟨_, rfl⟩
  have HV := Lib.hid hv
  clear hv
  have z0c0 := z0.2 0 _ rfl
  have z0c1 := z0.2 1 _ rfl
  have z0c2 := z0.2 2 _ rfl
  go_wp2_with fail
  refine (depth_as hn HL.out v HV.out).mono ?_
  rintro en w8 ⟨rfl, b⟩
  clear z0c0 z0c1 z0c2
  replace z0 := z0.on b
  replace hn := hn.on b
  replace hi1 := hi1.on b
  replace hi2 := hi2.on b
  replace hi3 := hi3.on b
  replace hi4 := hi4.on b
  replace BW := Below.step BW b
  clear b
  have hm1 : m1 ≤ 60 := by rw [← hi1.1]; exact HIL.out
  have hm3 : m3 ≤ 60 := by rw [← hi3.1]; exact HOL.out
  go_wp2_with fail
  obtain ⟨w0, rfl⟩ : ∃ x, x = w8 := ⟨_, rfl⟩
  go_loop [13, 47] (fun a i => ∃ j : Nat, j ≤ m1 ∧ i = .int .i64 j ∧ a = .int .i64 (mostS ((ints d).take j))) (fun _ i => m1 - (intOf i).toNat)
  case atStart => exact ⟨0, Nat.zero_le _, rfl, rfl⟩
  case round =>
    obtain ⟨j, hj, rfl, rfl⟩ := hrel
    by_cases hlt : j < m1
    · obtain ⟨b0, off, x, eA, HX, cx⟩ := hi1.at hlt
      subst eA
      have hj0 : (0 : Int) ≤ (j : Int) := by omega
      have hj1 : (j : Int) < (m1 : Int) := by omega
      have HM : Hid (mostS ((ints d).take (j + 1)) = max (mostS ((ints d).take j)) x) := Lib.hid (by unfold mostS; rw [List.take_add_one, HX.out, List.foldl_append]; rfl)
      obtain ⟨mo, hmo⟩ : ∃ mo, mostS ((ints d).take j) = mo := ⟨_, rfl⟩
      rw [hmo] at HM ⊢
      clear hmo
      go_wp2_with fail
      all_goals go_round
      all_goals first
        | (simp [intOf]; omega)
        | exact ⟨j + 1, by omega, by go_num, by rw [HM.out]; congr 1; (try split) <;> omega⟩
    · obtain rfl : j = m1 := by omega
      have hj1 : ¬ (j : Int) < (j : Int) := by omega
      have et : mostS ((ints d).take j) = v := by rw [List.take_of_length_le (by rw [hi1.1]; exact Nat.le_refl _)]; exact HV.out
      rw [et]
      clear et
      go_wp2_with fail
      refine (rints_as hi1 hi2 (by omega) true (by simp)).mono ?_
      rintro en w9 ⟨rfl, b⟩
      replace z0 := z0.on b
      replace hn := hn.on b
      replace hi1 := hi1.on b
      replace hi2 := hi2.on b
      replace hi3 := hi3.on b
      replace hi4 := hi4.on b
      replace BW := Below.step BW b
      clear b
      go_wp2_with fail
      refine (rints_as hi3 hi4 (by omega) true (by simp)).mono ?_
      rintro en w10 ⟨rfl, b⟩
      replace z0 := z0.on b
      replace hn := hn.on b
      replace hi1 := hi1.on b
      replace hi2 := hi2.on b
      replace hi3 := hi3.on b
      replace hi4 := hi4.on b
      replace BW := Below.step BW b
      clear b
      have z0c0 := z0.2 0 _ rfl
      have z0c1 := z0.2 1 _ rfl
      have z0c2 := z0.2 2 _ rfl
      go_wp2_with fail
      refine (check_as hn HL.out).mono ?_
      rintro en w11 ⟨rfl, b⟩
      clear z0c0 z0c1 z0c2
      replace z0 := z0.on b
      replace hn := hn.on b
      replace hi1 := hi1.on b
      replace hi2 := hi2.on b
      replace hi3 := hi3.on b
      replace hi4 := hi4.on b
      replace BW := Below.step BW b
      clear b
      go_wp2_with fail
      go_ret
      exact ⟨rfl, BW⟩
end Go.Proofs.Ytcmdfkmjbfppgaa
