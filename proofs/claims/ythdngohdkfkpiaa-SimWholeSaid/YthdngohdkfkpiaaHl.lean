
/-
  Layer 7: the walk of SimWhole.
-/
import Derived.Test.YthdngohdkfkpiaaHk
namespace Go.Proofs.Ythdngohdkfkpiaa
open Go.RowKit
set_option linter.unusedVariables false
set_option maxRecDepth 4000

theorem nowS_congr (N : List Nd) (I : List Pt) (G R : List Int) (xss yss : List (List Nat)) : ∀ j, (∀ i < j, xss.getD i [] = yss.getD i []) → nowS N I G R xss j = nowS N I G R yss j
  | 0, _ => rfl
  | j + 1, h => by rw [nowS, nowS, nowS_congr N I G R xss yss j (fun i hi => h i (by omega)), h j (by omega)]
theorem toldS_congr (N : List Nd) (I O : List Pt) (G R : List Int) (xss yss : List (List Nat)) (j : Nat) (h : ∀ i < j + 1, xss.getD i [] = yss.getD i []) : toldS N I O G R xss j = toldS N I O G R yss j := by
  unfold toldS
  rw [nowS_congr N I G R xss yss j (fun i hi => h i (by omega)), h j (by omega)]
/-- of the first cycles what goes out is the same. -/
theorem runA_take {N : List Nd} {I O : List Pt} {xss l : List (List Nat)} (h : runA N I O xss = (l, 0)) (k : Nat) (hk : k ≤ xss.length) : runA N I O (xss.take k) = (l.take k, 0) ∧ l.length = xss.length := by
  unfold runA at h ⊢
  obtain ⟨d, e, hl⟩ : ∃ d e, levelS N I O = (d, e) := ⟨_, _, rfl⟩
  rw [hl] at h ⊢
  cases d with
  | none =>
    dsimp only at h
    injection h with h1 h2
    exact absurd h2 (no_of hl)
  | some dd =>
    dsimp only at h ⊢
    unfold runX at h ⊢
    split at h
    · rename_i ha
      injection h with h1 h2
      subst h1
      refine ⟨?_, by simp⟩
      rw [if_pos (List.all_eq_true.2 fun x hx => List.all_eq_true.1 ha x (List.mem_of_mem_take hx))]
      congr 1
      rw [List.length_take, Nat.min_eq_left hk, ← List.map_take, List.take_range, Nat.min_eq_left hk]
      refine List.map_congr_left fun j hj => ?_
      have hj := List.mem_range.1 hj
      refine toldS_congr _ _ _ _ _ _ _ j fun i hi => ?_
      rw [List.getD_eq_getElem?_getD, List.getD_eq_getElem?_getD, List.getElem?_take, if_pos (by omega)]
    · injection h with h1 h2
      cases h2
theorem runA_no {N : List Nd} {I O : List Pt} {xss l : List (List Nat)} {e : Int} (h : runA N I O xss = (l, e)) (he : e ≠ 0) : l = [] := by
  unfold runA at h
  split at h
  · injection h with h1 h2
    exact h1.symm
  · unfold runX at h
    split at h
    · injection h with h1 h2
      exact absurd h2.symm he
    · injection h with h1 h2
      exact h1.symm
theorem runA_len {N : List Nd} {I O : List Pt} {xss l : List (List Nat)} {e : Int} (h : runA N I O xss = (l, e)) : ∀ x ∈ l, x.length = O.length := by
  intro x hx
  unfold runA at h
  split at h
  · injection h with h1 h2
    subst h1
    cases hx
  · unfold runX at h
    split at h
    · injection h with h1 h2
      subst h1
      obtain ⟨j, _, rfl⟩ := List.mem_map.1 hx
      unfold toldS outS
      rw [List.length_map]
    · injection h with h1 h2
      subst h1
      cases hx
theorem bx3 {w : World} {s : Nat} {a b c : Value} (z : Bx w s [a, b, c]) : w.cell? ⟨s, 0, none⟩ = some a ∧ w.cell? ⟨s, 1, none⟩ = some b ∧ w.cell? ⟨s, 2, none⟩ = some c := ⟨z.2 0 _ rfl, z.2 1 _ rfl, z.2 2 _ rfl⟩
/-- one cell, carried on. -/
def Cl (w : World) (b o : Nat) (u : Value) : Prop := b < w.heap.size ∧ w.cell? ⟨b, o, none⟩ = some u
theorem Cl.on {w w' : World} {b o : Nat} {u : Value} (h : Cl w b o u) (hb : Below w.heap.size w w') : Cl w' b o u := ⟨Nat.lt_of_lt_of_le h.1 hb.size, (hb.cell (p := ⟨b, o, none⟩) h.1).trans h.2⟩
set_option maxRecDepth 20000 in
set_option maxHeartbeats 8000000 in
theorem simWhole_as {An Ai Ao : Option Addr} {nn cn ni ci no co : Nat} {N : List Nd} {I O : List Pt} {w : World} (h : NetIn w An nn cn Ai ni ci Ao no co N I O) {As : Option Addr} {ns cs : Nat} {xss : List (List Nat)} (hs : Nn w As ns xss) (hns : ns ≤ 140737488351232) (sws : Sw As ns cs) (y : Int) (hy : 0 ≤ y ∧ y ≤ 255) :
    Calls Try.prog 6 #[.agg #[.slice An nn cn, .slice Ai ni ci, .slice Ao no co], .slice As ns cs, .int .u8 y] w fun en w' => en = .returned (.bool true) ∧ Below w.heap.size w w' := by
  go_enter Try.func6, Try.ntmps6
  go_upto_region 1 with fail
  obtain ⟨w1, e_w1⟩ : ∃ w', w.alloc (.cells #[.slice An nn cn, .slice Ai ni ci, .slice Ao no co] 25) = w' := ⟨_, rfl⟩
  have z0 : Bx w1 w.heap.size [.slice An nn cn, .slice Ai ni ci, .slice Ao no co] := e_w1 ▸ Bx.made_k w rfl #[.slice An nn cn, .slice Ai ni ci, .slice Ao no co] 25
  have BW : Below w.heap.size w w1 := e_w1 ▸ below_lit _ _
  rw [e_w1]
  clear e_w1
  replace h := h.on BW
  replace hs := hs.on BW
  go_wp2_with fail
  refine (awake7_any _).mono ?_
  rintro en w2 ⟨rfl, b⟩
  replace h := h.on b
  replace hs := hs.on b
  replace z0 := z0.on b
  replace BW := Below.step BW b
  clear b
  have z0c0 := z0.2 0 _ rfl
  have z0c1 := z0.2 1 _ rfl
  have z0c2 := z0.2 2 _ rfl
  go_wp2_with fail
  refine (large7_as h hs hns).mono ?_
  rintro en w3 ⟨v, rfl, hv, b⟩
  replace h := h.on b
  replace hs := hs.on b
  replace z0 := z0.on b
  replace BW := Below.step BW b
  clear b z0c0 z0c1 z0c2
  cases v
  case true =>
    go_wp2_with fail
    go_ret
    exact ⟨rfl, BW⟩
  obtain ⟨hlg, hns20⟩ := hv rfl
  obtain ⟨hn, hn60, hi66, ho66, hbb⟩ := h.nt hlg
  have HBB : Hid (∀ p ∈ I ++ O, p.bits.length ≤ 100000) := Lib.hid fun p hp => by have := (hbb p hp).1; omega
  have sn := h.sn
  have HLN := Lib.hid hs.len
  clear h hlg hbb hv hns
  obtain ⟨l, e, hr⟩ : ∃ l e, runA N I O xss = (l, e) := ⟨_, _, rfl⟩
  have HR := Lib.hid hr
  clear hr
  have z0c0 := z0.2 0 _ rfl
  have z0c1 := z0.2 1 _ rfl
  have z0c2 := z0.2 2 _ rfl
  go_wp2_with fail
  refine (run_any hn sn HBB.out hs (by omega) HR.out).mono ?_
  rintro en w4 ⟨Al, ml, cl, rfl, hl, swl, b⟩
  replace hn := hn.on b
  replace hs := hs.on b
  replace z0 := z0.on b
  replace BW := Below.step BW b
  clear b z0c0 z0c1 z0c2
  by_cases he : e = 0
  · subst he
    obtain ⟨k, hk⟩ : ∃ k : Nat, (if 0 < ns then y.toNat % ns else 0) = k := ⟨_, rfl⟩
    have hkn : k ≤ ns := by
      rw [← hk]
      split
      · exact Nat.le_of_lt (Nat.mod_lt _ (by omega))
      · omega
    obtain ⟨HT, HL2⟩ := runA_take HR.out k (by rw [HLN.out]; exact hkn)
    have HT := Lib.hid HT
    have hml : l.length = ml := hl.len
    have hlt : (l.take k).length = k := by rw [List.length_take, HL2, HLN.out]; omega
    have HLT := Lib.hid hlt
    have hmk : ml = ns := by rw [← hml, HL2, HLN.out]
    subst hmk
    have hsk := hs.take hkn
    clear HL2 hml hlt
    obtain ⟨y, rfl⟩ := Int.eq_ofNat_of_zero_le hy.1
    rw [Int.toNat_natCast] at hk
    have z0c0 := z0.2 0 _ rfl
    have z0c1 := z0.2 1 _ rfl
    have z0c2 := z0.2 2 _ rfl
    have hy2 : IntKind.i64.wrap (y : Int) = (y : Int) := by rw [IntKind.wrap_i64]; omega
    have HOL : Hid (O.length ≤ 66) := Lib.hid (by rw [hn.o.1]; exact ho66)
    have hk0 : (0 : Int) ≤ (k : Int) := by omega
    have hk1 : (k : Int) ≤ (cs : Int) := by have := sws.1; omega
    rcases Nat.eq_zero_or_pos ml with h0 | h0
    · rw [if_neg (by omega)] at hk
      subst hk
      have e0 : decide ((0 : Int) < (ml : Int)) = false := by simp; omega
      go_upto_region 11 with fail
      clear z0c0 z0c1 z0c2 hy2 e0
      have bd : Below w4.heap.size w4 w4.drew := (Below.refl _ _).drew
      replace hn := hn.on bd
      replace z0 := z0.on bd
      replace hl := hl.on bd
      replace hsk := hsk.on bd
      replace BW := Lib.hid (Below.step BW bd)
      clear bd hs
      go_region_held3 (fun w' => w'.cell? ⟨w.heap.size, 0, none⟩ = some (.slice An nn cn) ∧ w'.cell? ⟨w.heap.size, 1, none⟩ = some (.slice Ai ni ci) ∧ w'.cell? ⟨w.heap.size, 2, none⟩ = some (.slice Ao no co))
        ((with_reducible exact bx3 z0))
        (first
          | (go_at_call 9
             (with_reducible refine (run_any hn sn HBB.out hsk (by omega) HT.out).mono ?_)
             rintro en w5 ⟨A5, m5, c5, rfl, hl5, sw5, b⟩
             replace hl := hl.on b
             replace z0 := z0.on b
             replace BW := Lib.hid (Below.step BW.out b)
             clear b))
      replace BW := BW.out
      have hm5 : m5 = 0 := by rw [← hl5.len]; exact HLT.out
      subst hm5
      go_wp2_with fail
      clear hn hsk
      go_loopw [55] (fun iv wr => ∃ i : Nat, i ≤ 0 ∧ iv = .int .i64 i ∧ Hid (NnT 39 65 wr Al ml l) ∧ Hid (NnT 39 65 wr A5 0 (l.take 0)) ∧ Below w.heap.size w wr) (fun iv _ => 0 - (intOf iv).toNat)
      case atStart => exact ⟨0, Nat.zero_le _, rfl, Lib.hid hl, Lib.hid hl5, BW⟩
      case round =>
        clear hl hl5 BW
        obtain ⟨i, hi, rfl, HL, HL5, BW⟩ := hrel
        by_cases hlt : i < 0
        · exact absurd hlt (by omega)
        · obtain rfl : i = 0 := by omega
          go_wp2_with fail
          go_ret
          exact ⟨rfl, BW⟩
    · rw [if_pos h0] at hk
      have e0 : decide ((0 : Int) < (ml : Int)) = true := by simp; omega
      have e1 : ((ml : Int) == 0) = false := by simp; omega
      have e2 : (y : Int) % (ml : Int) = (k : Int) := by omega
      have e3 : Int.tmod (y : Int) (ml : Int) = (k : Int) := by rw [Int.tmod_eq_emod_of_nonneg (by omega)]; exact e2
      go_upto_region 11 with fail
      clear e1 e2 e3 hk
      clear z0c0 z0c1 z0c2 hy2 e0
      have bd : Below w4.heap.size w4 w4.drew := (Below.refl _ _).drew
      replace hn := hn.on bd
      replace z0 := z0.on bd
      replace hl := hl.on bd
      replace hsk := hsk.on bd
      replace BW := Lib.hid (Below.step BW bd)
      clear bd hs
      go_region_held3 (fun w' => w'.cell? ⟨w.heap.size, 0, none⟩ = some (.slice An nn cn) ∧ w'.cell? ⟨w.heap.size, 1, none⟩ = some (.slice Ai ni ci) ∧ w'.cell? ⟨w.heap.size, 2, none⟩ = some (.slice Ao no co))
        ((with_reducible exact bx3 z0))
        (first
          | (go_at_call 9
             (with_reducible refine (run_any hn sn HBB.out hsk (by omega) HT.out).mono ?_)
             rintro en w5 ⟨A5, m5, c5, rfl, hl5, sw5, b⟩
             replace hl := hl.on b
             replace z0 := z0.on b
             replace BW := Lib.hid (Below.step BW.out b)
             clear b))
      replace BW := BW.out
      have hm5 : m5 = k := by rw [← hl5.len]; exact HLT.out
      subst hm5
      go_wp2_with fail
      clear hn hsk
      go_loopw [55] (fun iv wr => ∃ i : Nat, i ≤ m5 ∧ iv = .int .i64 i ∧ Hid (NnT 39 65 wr Al ml l) ∧ Hid (NnT 39 65 wr A5 m5 (l.take m5)) ∧ Below w.heap.size w wr) (fun iv _ => m5 - (intOf iv).toNat)
      case atStart => exact ⟨0, Nat.zero_le _, rfl, Lib.hid hl, Lib.hid hl5, BW⟩
      case round =>
        clear hl hl5 BW
        obtain ⟨i, hi, rfl, HL, HL5, BW⟩ := hrel
        by_cases hlt : i < m5
        · obtain ⟨b5, o5, A6, m6, d6, xs6, rfl, hb5, HX5, q5, n6, s6⟩ := HL5.out.at hlt
          obtain ⟨b7, o7, A7, m7, d7, xs7, rfl, hb7, HX7, q7, n7, s7⟩ := HL.out.at (show i < ml by omega)
          obtain rfl : xs6 = xs7 := by
            have := HX5.out
            rw [List.getElem?_take, if_pos hlt, HX7.out] at this
            injection this with this
            exact this.symm
          obtain rfl : m6 = m7 := n6.len.symm.trans n7.len
          have hm6 : m6 ≤ 66 := by
            rw [← n6.len, runA_len HR.out _ (List.mem_of_getElem? HX7.out)]
            exact HOL.out
          have k5 : Cl wr b5 (o5 + i) (.slice A6 m6 d6) := ⟨hb5, q5⟩
          have k7 : Cl wr b7 (o7 + i) (.slice A7 m6 d7) := ⟨hb7, q7⟩
          have hl := HL.out
          have hl5 := HL5.out
          have i0 : (0 : Int) ≤ (i : Int) := by omega
          have i1 : (i : Int) < ((m5 : Nat) : Int) := by omega
          have i2 : (i : Int) < (ml : Int) := by omega
          clear q5 q7 hb5 hb7 HL HL5
          go_upto_region 17 with fail
          try dsimp only [List.append]
          refine region_plan [0, 1, 2, 3, 5, 6, 7, 8, 4, 9, 10, 11] (by kernel_rfl) (by kernel_rfl) (by kernel_rfl) (by kernel_rfl) (by kernel_rfl) ?_
          dsimp only [pick, nth]
          replace hl := hl.on ((Below.refl _ _).drew : Below wr.heap.size wr wr.drew)
          replace hl5 := hl5.on ((Below.refl _ _).drew : Below wr.heap.size wr wr.drew)
          replace k5 := k5.on ((Below.refl _ _).drew : Below wr.heap.size wr wr.drew)
          replace k7 := k7.on ((Below.refl _ _).drew : Below wr.heap.size wr wr.drew)
          replace n6 := n6.on ((Below.refl _ _).drew : Below wr.heap.size wr wr.drew)
          replace n7 := n7.on ((Below.refl _ _).drew : Below wr.heap.size wr wr.drew)
          replace BW := Below.step BW ((Below.refl _ _).drew : Below wr.heap.size wr wr.drew)
          obtain ⟨w1, e_w1⟩ : ∃ w', wr.drew = w' := ⟨_, rfl⟩
          rw [e_w1] at hl hl5 k5 k7 n6 n7 BW ⊢
          clear e_w1
          have lf0 := fun s : Wd w1 => (k5.on s.below).2
          have lf1 := fun s : Wd w1 => (k7.on s.below).2
          refine lex_plain 8 (by kernel_rfl) ?_
          dsimp only [List.take, List.drop]
          repeat go_big_quiet_step (fail)
          refine wpQuiet_nil ?_
          clear lf0 lf1
          refine lex_call (by kernel_rfl) (by kernel_rfl) (fun w2 b K hK => ?_)
          replace hl := hl.on b
          replace hl5 := hl5.on b
          replace k5 := k5.on b
          replace k7 := k7.on b
          replace n6 := n6.on b
          replace n7 := n7.on b
          replace BW := Below.step BW b
          clear b
          go_simp
          refine (parts_as n6 (by omega)).mono ?_
          rintro en w3 ⟨A8, c8, rfl, hp8, sw8, b⟩
          dsimp only
          refine hK _ _ b ?_
          clear hK K
          replace hl := hl.on b
          replace hl5 := hl5.on b
          replace k5 := k5.on b
          replace k7 := k7.on b
          replace n6 := n6.on b
          replace n7 := n7.on b
          replace BW := Below.step BW b
          clear b
          refine lex_call (by kernel_rfl) (by kernel_rfl) (fun w4 b K hK => ?_)
          replace hl := hl.on b
          replace hl5 := hl5.on b
          replace k5 := k5.on b
          replace k7 := k7.on b
          replace n6 := n6.on b
          replace n7 := n7.on b
          replace hp8 := hp8.on b
          replace BW := Below.step BW b
          clear b
          go_simp
          refine (parts_as n7 (by omega)).mono ?_
          rintro en w5 ⟨A9, c9, rfl, hp9, sw9, b⟩
          dsimp only
          refine hK _ _ b ?_
          clear hK K
          replace hl := hl.on b
          replace hl5 := hl5.on b
          replace k5 := k5.on b
          replace k7 := k7.on b
          replace n6 := n6.on b
          replace n7 := n7.on b
          replace hp8 := hp8.on b
          replace BW := Below.step BW b
          clear b
          refine lex_call (by kernel_rfl) (by kernel_rfl) (fun w6 b K hK => ?_)
          replace hl := hl.on b
          replace hl5 := hl5.on b
          replace k5 := k5.on b
          replace k7 := k7.on b
          replace n6 := n6.on b
          replace n7 := n7.on b
          replace hp8 := hp8.on b
          replace hp9 := hp9.on b
          replace BW := Below.step BW b
          clear b
          go_simp
          refine (same7_eq hp8 hp9 (by omega)).mono ?_
          rintro en w7 ⟨rfl, b⟩
          dsimp only
          refine hK _ _ b ?_
          clear hK K
          replace hl := hl.on b
          replace hl5 := hl5.on b
          replace k5 := k5.on b
          replace k7 := k7.on b
          replace n6 := n6.on b
          replace n7 := n7.on b
          replace hp8 := hp8.on b
          replace hp9 := hp9.on b
          replace BW := Below.step BW b
          clear b
          have lf0 := fun s : Wd w7 => (k5.on s.below).2
          have lf1 := fun s : Wd w7 => (k7.on s.below).2
          refine lex_plain 1 (by kernel_rfl) ?_
          dsimp only [List.take, List.drop]
          repeat go_big_quiet_step (fail)
          refine wpQuiet_nil ?_
          clear lf0 lf1
          refine lex_nil (fun w8 b => ?_)
          replace hl := hl.on b
          replace hl5 := hl5.on b
          replace k5 := k5.on b
          replace k7 := k7.on b
          replace n6 := n6.on b
          replace n7 := n7.on b
          replace hp8 := hp8.on b
          replace hp9 := hp9.on b
          replace BW := Below.step BW b
          clear b
          dsimp only [NoPanic]
          go_wp2_with fail
          go_roundw
          case rel => exact ⟨i + 1, by omega, by go_num, Lib.hid hl, Lib.hid hl5, BW⟩
          case measure => simp [intOf]; omega
        · obtain rfl : i = m5 := by omega
          go_wp2_with fail
          go_ret
          exact ⟨rfl, BW⟩
  · have he0 : (e != 0) = true := by simpa using he
    have hl0 : l = [] := runA_no HR.out he
    subst hl0
    have hml : ml = 0 := hl.len.symm
    subst hml
    clear he
    go_wp2_with fail
    go_ret
    exact ⟨rfl, BW⟩
end Go.Proofs.Ythdngohdkfkpiaa
