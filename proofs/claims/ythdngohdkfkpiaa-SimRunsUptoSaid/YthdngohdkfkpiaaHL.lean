/-
  Layer 7: the walk of SimWhole.
  Layer 7: the walk of SimAgain.
  A script among the arguments, opened: cycle by cycle its numbers.
-/
import Derived.Test.YthdngohdkfkpiaaHk
import Derived.Test.YthdngohdkfkpiaaHi
import Derived.OpenShut
import Derived.ShutString
import Derived.ChangeOld
import Derived.Test.YthdngohdkfkpiaaGcc
namespace Go.Proofs.Ythdngohdkfkpiaa
open Go.RowKit
set_option linter.unusedVariables false
set_option maxRecDepth 4000

theorem nowS_congr (N : List Nd) (I : List Pt) (G R : List Int) (xss yss : List (List Nat)) : ∀ j, (∀ i < j, xss.getD i [] = yss.getD i []) → nowS N I G R xss j = nowS N I G R yss j
  | 0, _ => rfl
  | j + 1, h => by rw [nowS, nowS, nowS_congr N I G R xss yss j (fun i hi => h i (by omega)), h j (by omega)]
theorem toldS_congr (N : List Nd) (I O : List Pt) (G R : List Int) (xss yss : List (List Nat)) (j : Nat) (h : ∀ i < j + 1, xss.getD i [] = yss.getD i []) : toldS N I O G R xss j = toldS N I O G R yss j := by
  unfold toldS
  rw [nowS_congr N I G R xss yss j (fun i hi => h i (by omega)), h j (by omega)]
/-- of the first cycles what goes out is the same. -/
theorem runA_take {N : List Nd} {I O : List Pt} {xss l : List (List Nat)} (h : runA N I O xss = (l, 0)) (k : Nat) (hk : k ≤ xss.length) : runA N I O (xss.take k) = (l.take k, 0) ∧ l.length = xss.length := by
  unfold runA at h ⊢
  obtain ⟨d, e, hl⟩ : ∃ d e, levelS N I O = (d, e) := ⟨_, _, rfl⟩
  rw [hl] at h ⊢
  cases d with
  | none =>
    dsimp only at h
    injection h with h1 h2
    exact absurd h2 (no_of hl)
  | some dd =>
    dsimp only at h ⊢
    unfold runX at h ⊢
    split at h
    · rename_i ha
      injection h with h1 h2
      subst h1
      refine ⟨?_, by simp⟩
      rw [if_pos (List.all_eq_true.2 fun x hx => List.all_eq_true.1 ha x (List.mem_of_mem_take hx))]
      congr 1
      rw [List.length_take, Nat.min_eq_left hk, ← List.map_take, List.take_range, Nat.min_eq_left hk]
      refine List.map_congr_left fun j hj => ?_
      have hj := List.mem_range.1 hj
      refine toldS_congr _ _ _ _ _ _ _ j fun i hi => ?_
      rw [List.getD_eq_getElem?_getD, List.getD_eq_getElem?_getD, List.getElem?_take, if_pos (by omega)]
    · injection h with h1 h2
      cases h2
theorem runA_no {N : List Nd} {I O : List Pt} {xss l : List (List Nat)} {e : Int} (h : runA N I O xss = (l, e)) (he : e ≠ 0) : l = [] := by
  unfold runA at h
  split at h
  · injection h with h1 h2
    exact h1.symm
  · unfold runX at h
    split at h
    · injection h with h1 h2
      exact absurd h2.symm he
    · injection h with h1 h2
      exact h1.symm
theorem runA_len {N : List Nd} {I O : List Pt} {xss l : List (List Nat)} {e : Int} (h : runA N I O xss = (l, e)) : ∀ x ∈ l, x.length = O.length := by
  intro x hx
  unfold runA at h
  split at h
  · injection h with h1 h2
    subst h1
    cases hx
  · unfold runX at h
    split at h
    · injection h with h1 h2
      subst h1
      obtain ⟨j, _, rfl⟩ := List.mem_map.1 hx
      unfold toldS outS
      rw [List.length_map]
    · injection h with h1 h2
      subst h1
      cases hx
theorem bx3 {w : World} {s : Nat} {a b c : Value} (z : Bx w s [a, b, c]) : w.cell? ⟨s, 0, none⟩ = some a ∧ w.cell? ⟨s, 1, none⟩ = some b ∧ w.cell? ⟨s, 2, none⟩ = some c := ⟨z.2 0 _ rfl, z.2 1 _ rfl, z.2 2 _ rfl⟩
/-- one cell, carried on. -/
def Cl (w : World) (b o : Nat) (u : Value) : Prop := b < w.heap.size ∧ w.cell? ⟨b, o, none⟩ = some u
theorem Cl.on {w w' : World} {b o : Nat} {u : Value} (h : Cl w b o u) (hb : Below w.heap.size w w') : Cl w' b o u := ⟨Nat.lt_of_lt_of_le h.1 hb.size, (hb.cell (p := ⟨b, o, none⟩) h.1).trans h.2⟩
set_option maxRecDepth 20000 in
set_option maxHeartbeats 8000000 in
theorem simWhole_as {An Ai Ao : Option Addr} {nn cn ni ci no co : Nat} {N : List Nd} {I O : List Pt} {w : World} (h : NetIn w An nn cn Ai ni ci Ao no co N I O) {As : Option Addr} {ns cs : Nat} {xss : List (List Nat)} (hs : Nn w As ns xss) (hns : ns ≤ 140737488351232) (sws : Sw As ns cs) (y : Int) (hy : 0 ≤ y ∧ y ≤ 255) :
    Calls Try.prog 6 #[.agg #[.slice An nn cn, .slice Ai ni ci, .slice Ao no co], .slice As ns cs, .int .u8 y] w fun en w' => en = .returned (.bool true) ∧ Below w.heap.size w w' := by
  go_enter Try.func6, Try.ntmps6
  go_upto_region 1 with fail
  obtain ⟨w1, e_w1⟩ : ∃ w', w.alloc (.cells #[.slice An nn cn, .slice Ai ni ci, .slice Ao no co] 25) = w' := ⟨_, rfl⟩
  have z0 : Bx w1 w.heap.size [.slice An nn cn, .slice Ai ni ci, .slice Ao no co] := e_w1 ▸ Bx.made_k w rfl #[.slice An nn cn, .slice Ai ni ci, .slice Ao no co] 25
  have BW : Below w.heap.size w w1 := e_w1 ▸ below_lit _ _
  rw [e_w1]
  clear e_w1
  replace h := h.on BW
  replace hs := hs.on BW
  go_wp2_with fail
  refine (awake7_any _).mono ?_
  rintro en w2 ⟨rfl, b⟩
  replace h := h.on b
  replace hs := hs.on b
  replace z0 := z0.on b
  replace BW := Below.step BW b
  clear b
  have z0c0 := z0.2 0 _ rfl
  have z0c1 := z0.2 1 _ rfl
  have z0c2 := z0.2 2 _ rfl
  go_wp2_with fail
  refine (large7_as h hs hns).mono ?_
  rintro en w3 ⟨v, rfl, hv, b⟩
  replace h := h.on b
  replace hs := hs.on b
  replace z0 := z0.on b
  replace BW := Below.step BW b
  clear b z0c0 z0c1 z0c2
  cases v
  case true =>
    go_wp2_with fail
    go_ret
    exact ⟨rfl, BW⟩
  obtain ⟨hlg, hns20⟩ := hv rfl
  obtain ⟨hn, hn60, hi66, ho66, hbb⟩ := h.nt hlg
  have HBB : Hid (∀ p ∈ I ++ O, p.bits.length ≤ 100000) := Lib.hid fun p hp => by have := (hbb p hp).1; omega
  have sn := h.sn
  have HLN := Lib.hid hs.len
  clear h hlg hbb hv hns
  obtain ⟨l, e, hr⟩ : ∃ l e, runA N I O xss = (l, e) := ⟨_, _, rfl⟩
  have HR := Lib.hid hr
  clear hr
  have z0c0 := z0.2 0 _ rfl
  have z0c1 := z0.2 1 _ rfl
  have z0c2 := z0.2 2 _ rfl
  go_wp2_with fail
  refine (run_any hn sn HBB.out hs (by omega) HR.out).mono ?_
  rintro en w4 ⟨Al, ml, cl, rfl, hl, swl, b⟩
  replace hn := hn.on b
  replace hs := hs.on b
  replace z0 := z0.on b
  replace BW := Below.step BW b
  clear b z0c0 z0c1 z0c2
  by_cases he : e = 0
  · subst he
    obtain ⟨k, hk⟩ : ∃ k : Nat, (if 0 < ns then y.toNat % ns else 0) = k := ⟨_, rfl⟩
    have hkn : k ≤ ns := by
      rw [← hk]
      split
      · exact Nat.le_of_lt (Nat.mod_lt _ (by omega))
      · omega
    obtain ⟨HT, HL2⟩ := runA_take HR.out k (by rw [HLN.out]; exact hkn)
    have HT := Lib.hid HT
    have hml : l.length = ml := hl.len
    have hlt : (l.take k).length = k := by rw [List.length_take, HL2, HLN.out]; omega
    have HLT := Lib.hid hlt
    have hmk : ml = ns := by rw [← hml, HL2, HLN.out]
    subst hmk
    have hsk := hs.take hkn
    clear HL2 hml hlt
    obtain ⟨y, rfl⟩ := Int.eq_ofNat_of_zero_le hy.1
    rw [Int.toNat_natCast] at hk
    have z0c0 := z0.2 0 _ rfl
    have z0c1 := z0.2 1 _ rfl
    have z0c2 := z0.2 2 _ rfl
    have hy2 : IntKind.i64.wrap (y : Int) = (y : Int) := by rw [IntKind.wrap_i64]; omega
    have HOL : Hid (O.length ≤ 66) := Lib.hid (by rw [hn.o.1]; exact ho66)
    have hk0 : (0 : Int) ≤ (k : Int) := by omega
    have hk1 : (k : Int) ≤ (cs : Int) := by have := sws.1; omega
    rcases Nat.eq_zero_or_pos ml with h0 | h0
    · rw [if_neg (by omega)] at hk
      subst hk
      have e0 : decide ((0 : Int) < (ml : Int)) = false := by simp; omega
      go_upto_region 11 with fail
      clear z0c0 z0c1 z0c2 hy2 e0
      have bd : Below w4.heap.size w4 w4.drew := (Below.refl _ _).drew
      replace hn := hn.on bd
      replace z0 := z0.on bd
      replace hl := hl.on bd
      replace hsk := hsk.on bd
      replace BW := Lib.hid (Below.step BW bd)
      clear bd hs
      go_region_held3 (fun w' => w'.cell? ⟨w.heap.size, 0, none⟩ = some (.slice An nn cn) ∧ w'.cell? ⟨w.heap.size, 1, none⟩ = some (.slice Ai ni ci) ∧ w'.cell? ⟨w.heap.size, 2, none⟩ = some (.slice Ao no co))
        ((with_reducible exact bx3 z0))
        (first
          | (go_at_call 9
             (with_reducible refine (run_any hn sn HBB.out hsk (by omega) HT.out).mono ?_)
             rintro en w5 ⟨A5, m5, c5, rfl, hl5, sw5, b⟩
             replace hl := hl.on b
             replace z0 := z0.on b
             replace BW := Lib.hid (Below.step BW.out b)
             clear b))
      replace BW := BW.out
      have hm5 : m5 = 0 := by rw [← hl5.len]; exact HLT.out
      subst hm5
      go_wp2_with fail
      clear hn hsk
      go_loopw [55] (fun iv wr => ∃ i : Nat, i ≤ 0 ∧ iv = .int .i64 i ∧ Hid (NnT 39 65 wr Al ml l) ∧ Hid (NnT 39 65 wr A5 0 (l.take 0)) ∧ Below w.heap.size w wr) (fun iv _ => 0 - (intOf iv).toNat)
      case atStart => exact ⟨0, Nat.zero_le _, rfl, Lib.hid hl, Lib.hid hl5, BW⟩
      case round =>
        clear hl hl5 BW
        obtain ⟨i, hi, rfl, HL, HL5, BW⟩ := hrel
        by_cases hlt : i < 0
        · exact absurd hlt (by omega)
        · obtain rfl : i = 0 := by omega
          go_wp2_with fail
          go_ret
          exact ⟨rfl, BW⟩
    · rw [if_pos h0] at hk
      have e0 : decide ((0 : Int) < (ml : Int)) = true := by simp; omega
      have e1 : ((ml : Int) == 0) = false := by simp; omega
      have e2 : (y : Int) % (ml : Int) = (k : Int) := by omega
      have e3 : Int.tmod (y : Int) (ml : Int) = (k : Int) := by rw [Int.tmod_eq_emod_of_nonneg (by omega)]; exact e2
      go_upto_region 11 with fail
      clear e1 e2 e3 hk
      clear z0c0 z0c1 z0c2 hy2 e0
      have bd : Below w4.heap.size w4 w4.drew := (Below.refl _ _).drew
      replace hn := hn.on bd
      replace z0 := z0.on bd
      replace hl := hl.on bd
      replace hsk := hsk.on bd
      replace BW := Lib.hid (Below.step BW bd)
      clear bd hs
      go_region_held3 (fun w' => w'.cell? ⟨w.heap.size, 0, none⟩ = some (.slice An nn cn) ∧ w'.cell? ⟨w.heap.size, 1, none⟩ = some (.slice Ai ni ci) ∧ w'.cell? ⟨w.heap.size, 2, none⟩ = some (.slice Ao no co))
        ((with_reducible exact bx3 z0))
        (first
          | (go_at_call 9
             (with_reducible refine (run_any hn sn HBB.out hsk (by omega) HT.out).mono ?_)
             rintro en w5 ⟨A5, m5, c5, rfl, hl5, sw5, b⟩
             replace hl := hl.on b
             replace z0 := z0.on b
             replace BW := Lib.hid (Below.step BW.out b)
             clear b))
      replace BW := BW.out
      have hm5 : m5 = k := by rw [← hl5.len]; exact HLT.out
      subst hm5
      go_wp2_with fail
      clear hn hsk
      go_loopw [55] (fun iv wr => ∃ i : Nat, i ≤ m5 ∧ iv = .int .i64 i ∧ Hid (NnT 39 65 wr Al ml l) ∧ Hid (NnT 39 65 wr A5 m5 (l.take m5)) ∧ Below w.heap.size w wr) (fun iv _ => m5 - (intOf iv).toNat)
      case atStart => exact ⟨0, Nat.zero_le _, rfl, Lib.hid hl, Lib.hid hl5, BW⟩
      case round =>
        clear hl hl5 BW
        obtain ⟨i, hi, rfl, HL, HL5, BW⟩ := hrel
        by_cases hlt : i < m5
        · obtain ⟨b5, o5, A6, m6, d6, xs6, rfl, hb5, HX5, q5, n6, s6⟩ := HL5.out.at hlt
          obtain ⟨b7, o7, A7, m7, d7, xs7, rfl, hb7, HX7, q7, n7, s7⟩ := HL.out.at (show i < ml by omega)
          obtain rfl : xs6 = xs7 := by
            have := HX5.out
            rw [List.getElem?_take, if_pos hlt, HX7.out] at this
            injection this with this
            exact this.symm
          obtain rfl : m6 = m7 := n6.len.symm.trans n7.len
          have hm6 : m6 ≤ 66 := by
            rw [← n6.len, runA_len HR.out _ (List.mem_of_getElem? HX7.out)]
            exact HOL.out
          have k5 : Cl wr b5 (o5 + i) (.slice A6 m6 d6) := ⟨hb5, q5⟩
          have k7 : Cl wr b7 (o7 + i) (.slice A7 m6 d7) := ⟨hb7, q7⟩
          have hl := HL.out
          have hl5 := HL5.out
          have i0 : (0 : Int) ≤ (i : Int) := by omega
          have i1 : (i : Int) < ((m5 : Nat) : Int) := by omega
          have i2 : (i : Int) < (ml : Int) := by omega
          clear q5 q7 hb5 hb7 HL HL5
          go_upto_region 17 with fail
          try dsimp only [List.append]
          refine region_plan [0, 1, 2, 3, 5, 6, 7, 8, 4, 9, 10, 11] (by kernel_rfl) (by kernel_rfl) (by kernel_rfl) (by kernel_rfl) (by kernel_rfl) ?_
          dsimp only [pick, nth]
          replace hl := hl.on ((Below.refl _ _).drew : Below wr.heap.size wr wr.drew)
          replace hl5 := hl5.on ((Below.refl _ _).drew : Below wr.heap.size wr wr.drew)
          replace k5 := k5.on ((Below.refl _ _).drew : Below wr.heap.size wr wr.drew)
          replace k7 := k7.on ((Below.refl _ _).drew : Below wr.heap.size wr wr.drew)
          replace n6 := n6.on ((Below.refl _ _).drew : Below wr.heap.size wr wr.drew)
          replace n7 := n7.on ((Below.refl _ _).drew : Below wr.heap.size wr wr.drew)
          replace BW := Below.step BW ((Below.refl _ _).drew : Below wr.heap.size wr wr.drew)
          obtain ⟨w1, e_w1⟩ : ∃ w', wr.drew = w' := ⟨_, rfl⟩
          rw [e_w1] at hl hl5 k5 k7 n6 n7 BW ⊢
          clear e_w1
          have lf0 := fun s : Wd w1 => (k5.on s.below).2
          have lf1 := fun s : Wd w1 => (k7.on s.below).2
          refine lex_plain 8 (by kernel_rfl) ?_
          dsimp only [List.take, List.drop]
          repeat go_big_quiet_step (fail)
          refine wpQuiet_nil ?_
          clear lf0 lf1
          refine lex_call (by kernel_rfl) (by kernel_rfl) (fun w2 b K hK => ?_)
          replace hl := hl.on b
          replace hl5 := hl5.on b
          replace k5 := k5.on b
          replace k7 := k7.on b
          replace n6 := n6.on b
          replace n7 := n7.on b
          replace BW := Below.step BW b
          clear b
          go_simp
          refine (parts_as n6 (by omega)).mono ?_
          rintro en w3 ⟨A8, c8, rfl, hp8, sw8, b⟩
          dsimp only
          refine hK _ _ b ?_
          clear hK K
          replace hl := hl.on b
          replace hl5 := hl5.on b
          replace k5 := k5.on b
          replace k7 := k7.on b
          replace n6 := n6.on b
          replace n7 := n7.on b
          replace BW := Below.step BW b
          clear b
          refine lex_call (by kernel_rfl) (by kernel_rfl) (fun w4 b K hK => ?_)
          replace hl := hl.on b
          replace hl5 := hl5.on b
          replace k5 := k5.on b
          replace k7 := k7.on b
          replace n6 := n6.on b
          replace n7 := n7.on b
          replace hp8 := hp8.on b
          replace BW := Below.step BW b
          clear b
          go_simp
          refine (parts_as n7 (by omega)).mono ?_
          rintro en w5 ⟨A9, c9, rfl, hp9, sw9, b⟩
          dsimp only
          refine hK _ _ b ?_
          clear hK K
          replace hl := hl.on b
          replace hl5 := hl5.on b
          replace k5 := k5.on b
          replace k7 := k7.on b
          replace n6 := n6.on b
          replace n7 := n7.on b
          replace hp8 := hp8.on b
          replace BW := Below.step BW b
          clear b
          refine lex_call (by kernel_rfl) (by kernel_rfl) (fun w6 b K hK => ?_)
          replace hl := hl.on b
          replace hl5 := hl5.on b
          replace k5 := k5.on b
          replace k7 := k7.on b
          replace n6 := n6.on b
          replace n7 := n7.on b
          replace hp8 := hp8.on b
          replace hp9 := hp9.on b
          replace BW := Below.step BW b
          clear b
          go_simp
          refine (same7_eq hp8 hp9 (by omega)).mono ?_
          rintro en w7 ⟨rfl, b⟩
          dsimp only
          refine hK _ _ b ?_
          clear hK K
          replace hl := hl.on b
          replace hl5 := hl5.on b
          replace k5 := k5.on b
          replace k7 := k7.on b
          replace n6 := n6.on b
          replace n7 := n7.on b
          replace hp8 := hp8.on b
          replace hp9 := hp9.on b
          replace BW := Below.step BW b
          clear b
          have lf0 := fun s : Wd w7 => (k5.on s.below).2
          have lf1 := fun s : Wd w7 => (k7.on s.below).2
          refine lex_plain 1 (by kernel_rfl) ?_
          dsimp only [List.take, List.drop]
          repeat go_big_quiet_step (fail)
          refine wpQuiet_nil ?_
          clear lf0 lf1
          refine lex_nil (fun w8 b => ?_)
          replace hl := hl.on b
          replace hl5 := hl5.on b
          replace k5 := k5.on b
          replace k7 := k7.on b
          replace n6 := n6.on b
          replace n7 := n7.on b
          replace hp8 := hp8.on b
          replace hp9 := hp9.on b
          replace BW := Below.step BW b
          clear b
          dsimp only [NoPanic]
          go_wp2_with fail
          go_roundw
          case rel => exact ⟨i + 1, by omega, by go_num, Lib.hid hl, Lib.hid hl5, BW⟩
          case measure => simp [intOf]; omega
        · obtain rfl : i = m5 := by omega
          go_wp2_with fail
          go_ret
          exact ⟨rfl, BW⟩
  · have he0 : (e != 0) = true := by simpa using he
    have hl0 : l = [] := runA_no HR.out he
    subst hl0
    have hml : ml = 0 := hl.len.symm
    subst hml
    clear he
    go_wp2_with fail
    go_ret
    exact ⟨rfl, BW⟩
end Go.Proofs.Ythdngohdkfkpiaa

namespace Go.Proofs.Ythdngohdkfkpiaa
open Go.RowKit
set_option linter.unusedVariables false
set_option maxRecDepth 4000

theorem runA_at {N : List Nd} {I O : List Pt} {xss l : List (List Nat)} (h : runA N I O xss = (l, 0)) {dd : List Nat} (hl : levelS N I O = (some dd, 0)) {G R : List Int} (hG : G = nI (gatesS N (ordU (fun i => dd.getD i 0) dd.length dd.length))) (hR : R = nI (regsS N (ordU (fun i => dd.getD i 0) dd.length dd.length))) : l.length = xss.length ∧ ∀ j xs, xss[j]? = some xs → fitsS I xs = true ∧ l[j]? = some (outS O (valsS N I G (nowS N I G R xss j) xs)) ∧ nowS N I G R xss (j + 1) = nextS N R (valsS N I G (nowS N I G R xss j) xs) (valsS N I G (nowS N I G R xss j) xs) R.length := by
  unfold runA at h
  rw [hl] at h
  dsimp only at h
  rw [← hG, ← hR] at h
  unfold runX at h
  split at h
  · rename_i ha
    injection h with h1 h2
    subst h1
    refine ⟨by simp, fun j xs hj => ⟨List.all_eq_true.1 ha xs (List.mem_of_getElem? hj), ?_, by rw [nowS, getD_of hj]⟩⟩
    have hjl := (List.getElem?_eq_some_iff.1 hj).1
    rw [List.getElem?_map, List.getElem?_range hjl]
    show some (toldS N I O G R xss j) = _
    unfold toldS
    rw [getD_of hj]
  · injection h with h1 h2
    cases h2
theorem runA_err {N : List Nd} {I O : List Pt} {xss l : List (List Nat)} {d : Option (List Nat)} {e e' : Int} (h : runA N I O xss = (l, e)) (hl : levelS N I O = (d, e')) (he : e' ≠ 0) : e = e' := by
  unfold runA at h
  rw [hl] at h
  cases d with
  | none =>
    injection h with h1 h2
    exact h2.symm
  | some dd => exact absurd (od_of hl).1 he
set_option maxRecDepth 20000 in
set_option maxHeartbeats 8000000 in
theorem simAgain_as {An Ai Ao : Option Addr} {nn cn ni ci no co : Nat} {N : List Nd} {I O : List Pt} {w : World} (h : NetIn w An nn cn Ai ni ci Ao no co N I O) {As : Option Addr} {ns cs : Nat} {xss : List (List Nat)} (hs : Nn w As ns xss) (hns : ns ≤ 140737488351232) (sws : Sw As ns cs) :
    Calls Try.prog 5 #[.agg #[.slice An nn cn, .slice Ai ni ci, .slice Ao no co], .slice As ns cs] w fun en w' => en = .returned (.bool true) ∧ Below w.heap.size w w' := by
  go_enter Try.func5, Try.ntmps5
  go_upto_region 1 with fail
  obtain ⟨w1, e_w1⟩ : ∃ w', w.alloc (.cells #[.slice An nn cn, .slice Ai ni ci, .slice Ao no co] 25) = w' := ⟨_, rfl⟩
  have z0 : Bx w1 w.heap.size [.slice An nn cn, .slice Ai ni ci, .slice Ao no co] := e_w1 ▸ Bx.made_k w rfl #[.slice An nn cn, .slice Ai ni ci, .slice Ao no co] 25
  have BW : Below w.heap.size w w1 := e_w1 ▸ below_lit _ _
  rw [e_w1]
  clear e_w1
  replace h := h.on BW
  replace hs := hs.on BW
  go_wp2_with fail
  refine (awake7_any _).mono ?_
  rintro en w2 ⟨rfl, b⟩
  replace h := h.on b
  replace hs := hs.on b
  replace z0 := z0.on b
  replace BW := Below.step BW b
  clear b
  have z0c0 := z0.2 0 _ rfl
  have z0c1 := z0.2 1 _ rfl
  have z0c2 := z0.2 2 _ rfl
  go_wp2_with fail
  refine (large7_as h hs hns).mono ?_
  rintro en w3 ⟨v, rfl, hv, b⟩
  replace h := h.on b
  replace hs := hs.on b
  replace z0 := z0.on b
  replace BW := Below.step BW b
  clear b z0c0 z0c1 z0c2
  cases v
  case true =>
    go_wp2_with fail
    go_ret
    exact ⟨rfl, BW⟩
  obtain ⟨hlg, hns20⟩ := hv rfl
  obtain ⟨hn, hn60, hi66, ho66, hbb⟩ := h.nt hlg
  have HBB : Hid (∀ p ∈ I ++ O, p.bits.length ≤ 100000) := Lib.hid fun p hp => by have := (hbb p hp).1; omega
  have HOL : Hid (O.length ≤ 66) := Lib.hid (by rw [hn.o.1]; exact ho66)
  have sn := h.sn
  have HLN := Lib.hid hs.len
  clear h hlg hbb hv hns
  obtain ⟨l, e, hr⟩ : ∃ l e, runA N I O xss = (l, e) := ⟨_, _, rfl⟩
  have HR := Lib.hid hr
  clear hr
  obtain ⟨d, e', hle⟩ : ∃ d e', levelS N I O = (d, e') := ⟨_, _, rfl⟩
  have z0c0 := z0.2 0 _ rfl
  have z0c1 := z0.2 1 _ rfl
  have z0c2 := z0.2 2 _ rfl
  go_wp2_with fail
  refine (run_any hn sn HBB.out hs (by omega) HR.out).mono ?_
  rintro en w4 ⟨Al, ml, cl, rfl, hl, swl, b⟩
  replace hn := hn.on b
  replace hs := hs.on b
  replace z0 := z0.on b
  replace BW := Below.step BW b
  clear b z0c0 z0c1 z0c2
  have z0c0 := z0.2 0 _ rfl
  have z0c1 := z0.2 1 _ rfl
  have z0c2 := z0.2 2 _ rfl
  cases d with
  | none =>
    have he' := no_of hle
    have he0 : (e' != 0) = true := by simpa using he'
    have HEE : Hid (e = e') := Lib.hid (runA_err HR.out hle he')
    have hl0 : l = [] := runA_no HR.out (by rw [HEE.out]; exact he')
    subst hl0
    have hml : ml = 0 := hl.len.symm
    subst hml
    obtain rfl := HEE.out
    have HLE := Lib.hid hle
    clear hle he' HEE
    go_wp2_with fail
    refine (new_no hn HLE.out he0).mono ?_
    rintro en w5 ⟨rfl, b⟩
    go_wp2_with fail
    go_ret
    exact ⟨rfl, Below.step BW b⟩
  | some dd =>
    obtain rfl := (od_of hle).1
    have HLE := Lib.hid hle
    clear hle
    go_wp2_with fail
    refine (new_as hn sn HBB.out HLE.out).mono ?_
    rintro en w5 ⟨s, g, rfl, k, hA, e1, e2, e3, e4, e5, e6, b⟩
    have hp4 : w4.heap.size ≤ s.p := k.low
    have hg4 : w4.heap.size ≤ g := by have := k.hp; have := hA.low; omega
    have HK := Lib.hid k
    have HE1 := Lib.hid e1
    have HE2 := Lib.hid e2
    have HE3 := Lib.hid e3
    have HE4 := Lib.hid e4
    have HE5 := Lib.hid e5
    have HE6 := Lib.hid e6
    rw [← e2] at hA
    have HW4 := Lib.hid BW
    have BS : Below w4.heap.size w4 w5 := b
    clear b k e1 e2 e3 e4 e5 e6 hn z0c0 z0c1 z0c2
    by_cases he : e = 0
    · subst he
      obtain ⟨HLL, HAT⟩ := runA_at HR.out HLE.out HE5.out HE6.out
      have hml : ml = ns := by rw [← hl.len, HLL, HLN.out]
      subst hml
      have HAT := Lib.hid HAT
      clear HLL z0 BW
      go_wp2_with fail
      go_loopw [9] (fun rv wr => ∃ (r : Nat) (g : Nat), r ≤ 2 ∧ rv = .int .i64 r ∧ w4.heap.size ≤ g ∧ Hid (s.At wr g (now0 s.N)) ∧ Hid (Below w4.heap.size w4 wr)) (fun rv _ => 2 - (intOf rv).toNat)
      case atStart => exact ⟨0, g, by omega, rfl, hg4, Lib.hid hA, Lib.hid BS⟩
      case round =>
        clear hA BS hg4 g
        obtain ⟨r, g, hr2, rfl, hg4, HA, HB⟩ := hrel
        by_cases hlr : r < 2
        · have er : decide ((r : Int) < 2) = true := by simp; omega
          go_wp2_with fail
          clear er
          obtain ⟨wo, rfl⟩ : ∃ x, x = wr := ⟨_, rfl⟩
          go_loopw [61] (fun iv wr => ∃ i : Nat, i ≤ ml ∧ iv = .int .i64 i ∧ Hid (s.At wr g (nowS s.N s.I s.G s.R xss i)) ∧ Hid (Below w4.heap.size w4 wr)) (fun iv _ => ml - (intOf iv).toNat)
          case atStart => exact ⟨0, Nat.zero_le _, rfl, HA, HB⟩
          case round =>
            clear HA HB
            obtain ⟨i, hi, rfl, HA, HB⟩ := hrel
            by_cases hlt : i < ml
            · obtain ⟨b1, o1, A1, m1, d1, xs, rfl, hb1, HX, q1, hx, hm1, sw1⟩ := hs.at hlt
              obtain ⟨b7, o7, A7, m7, d7, xs7, rfl, hb7, HX7, q7, nl, s7⟩ := hl.at hlt
              obtain ⟨hfit, hli, hnow⟩ := HAT.out i xs HX.out
              rw [← HE3.out] at hfit
              rw [← HE2.out, ← HE3.out, ← HE4.out] at hli
              rw [← HE2.out, ← HE3.out] at hnow
              have hX := hli.symm.trans HX7.out
              injection hX with hX
              subst hX
              have HNW := Lib.hid hnow
              clear hli hnow HX7
              have hq1 := (HB.out.cell (p := ⟨b1, o1 + i, none⟩) hb1).trans q1
              have hq1' := hq1
              have i0 : (0 : Int) ≤ (i : Int) := by omega
              have i1 : (i : Int) < (ml : Int) := by omega
              go_wp2_with fail
              refine (peek_as HK.out HA.out (hx.on HB.out) hm1 hfit).mono ?_
              rintro en w7 ⟨Ap, mp, cp, rfl, np, swp, b⟩
              have BW := Below.step HB.out b
              have hA := HA.out.on b
              clear hq1 hq1' b HA
              have hq1 := (BW.cell (p := ⟨b1, o1 + i, none⟩) hb1).trans q1
              go_wp2_with fail
              refine (simStep_as HK.out hA (hx.on BW) hm1 hfit).mono ?_
              rintro en w6 ⟨Ao, mo, co, rfl, no_, swo, hA2, G⟩
              have on := hA.now
              replace np := np.tk (TK.grown G on ty_ne.2.2.2.1) (TK.grown G on ty_ne.2.2.2.2)
              replace BW := BW.grown G BW.size fun k hk => by injection hk with hk; omega
              replace nl := nl.on BW
              obtain rfl : mp = mo := np.len.symm.trans no_.len
              obtain rfl : mp = m7 := np.len.symm.trans nl.len
              have hmp : mp ≤ 66 := by
                rw [← np.len]
                unfold outS
                rw [List.length_map, HE4.out]
                exact HOL.out
              have k7 : Cl w6 b7 (o7 + i) (.slice A7 mp d7) := ⟨Nat.lt_of_lt_of_le hb7 BW.size, (BW.cell (p := ⟨b7, o7 + i, none⟩) hb7).trans q7⟩
              rw [← HNW.out] at hA2
              clear hA on G hq1
              have hA := hA2
              clear hA2
              go_upto_region 17 with fail
              try dsimp only [List.append]
              refine region_plan [0, 1, 2, 3, 4, 5, 6, 7, 9, 8, 10, 11, 12, 13, 14, 15, 17, 18, 19, 20, 16, 21, 22, 23, 24] (by kernel_rfl) (by kernel_rfl) (by kernel_rfl) (by kernel_rfl) (by kernel_rfl) ?_
              dsimp only [pick, nth]
              replace np := np.on ((Below.refl _ _).drew : Below w6.heap.size w6 w6.drew)
              replace no_ := no_.on ((Below.refl _ _).drew : Below w6.heap.size w6 w6.drew)
              replace nl := nl.on ((Below.refl _ _).drew : Below w6.heap.size w6 w6.drew)
              replace k7 := k7.on ((Below.refl _ _).drew : Below w6.heap.size w6 w6.drew)
              replace hA := hA.on ((Below.refl _ _).drew : Below w6.heap.size w6 w6.drew)
              replace BW := Below.step BW ((Below.refl _ _).drew : Below w6.heap.size w6 w6.drew)
              obtain ⟨w1, e_w1⟩ : ∃ w', w6.drew = w' := ⟨_, rfl⟩
              rw [e_w1] at np no_ nl k7 hA BW ⊢
              clear e_w1
              have lf0 := fun s : Wd w1 => (k7.on s.below).2
              refine lex_plain 9 (by kernel_rfl) ?_
              dsimp only [List.take, List.drop]
              repeat go_big_quiet_step (fail)
              refine wpQuiet_nil ?_
              clear lf0
              refine lex_call (by kernel_rfl) (by kernel_rfl) (fun w2 b K hK => ?_)
              replace np := np.on b
              replace no_ := no_.on b
              replace nl := nl.on b
              replace k7 := k7.on b
              replace hA := hA.on b
              replace BW := Below.step BW b
              clear b
              go_simp
              refine (parts_as np (by omega)).mono ?_
              rintro en w3 ⟨A8, c8, rfl, hp8, sw8, b⟩
              dsimp only
              refine hK _ _ b ?_
              clear hK K
              replace np := np.on b
              replace no_ := no_.on b
              replace nl := nl.on b
              replace k7 := k7.on b
              replace hA := hA.on b
              replace BW := Below.step BW b
              clear b
              refine lex_call (by kernel_rfl) (by kernel_rfl) (fun w4 b K hK => ?_)
              replace np := np.on b
              replace no_ := no_.on b
              replace nl := nl.on b
              replace k7 := k7.on b
              replace hA := hA.on b
              replace hp8 := hp8.on b
              replace BW := Below.step BW b
              clear b
              go_simp
              refine (parts_as no_ (by omega)).mono ?_
              rintro en w5 ⟨A9, c9, rfl, hp9, sw9, b⟩
              dsimp only
              refine hK _ _ b ?_
              clear hK K
              replace np := np.on b
              replace no_ := no_.on b
              replace nl := nl.on b
              replace k7 := k7.on b
              replace hA := hA.on b
              replace hp8 := hp8.on b
              replace BW := Below.step BW b
              clear b
              refine lex_call (by kernel_rfl) (by kernel_rfl) (fun w6 b K hK => ?_)
              replace np := np.on b
              replace no_ := no_.on b
              replace nl := nl.on b
              replace k7 := k7.on b
              replace hA := hA.on b
              replace hp8 := hp8.on b
              replace hp9 := hp9.on b
              replace BW := Below.step BW b
              clear b
              go_simp
              refine (same7_eq hp8 hp9 (by omega)).mono ?_
              rintro en w7 ⟨rfl, b⟩
              dsimp only
              refine hK _ _ b ?_
              clear hK K
              replace np := np.on b
              replace no_ := no_.on b
              replace nl := nl.on b
              replace k7 := k7.on b
              replace hA := hA.on b
              replace hp8 := hp8.on b
              replace hp9 := hp9.on b
              replace BW := Below.step BW b
              clear b
              have lf0 := fun s : Wd w7 => (k7.on s.below).2
              refine lex_plain 8 (by kernel_rfl) ?_
              dsimp only [List.take, List.drop]
              repeat go_big_quiet_step (fail)
              refine wpQuiet_nil ?_
              clear lf0
              refine lex_call (by kernel_rfl) (by kernel_rfl) (fun w8 b K hK => ?_)
              replace np := np.on b
              replace no_ := no_.on b
              replace nl := nl.on b
              replace k7 := k7.on b
              replace hA := hA.on b
              replace hp8 := hp8.on b
              replace hp9 := hp9.on b
              replace BW := Below.step BW b
              clear b
              go_simp
              refine (parts_as no_ (by omega)).mono ?_
              rintro en w9 ⟨A10, c10, rfl, hp10, sw10, b⟩
              dsimp only
              refine hK _ _ b ?_
              clear hK K
              replace np := np.on b
              replace no_ := no_.on b
              replace nl := nl.on b
              replace k7 := k7.on b
              replace hA := hA.on b
              replace hp8 := hp8.on b
              replace hp9 := hp9.on b
              replace BW := Below.step BW b
              clear b
              refine lex_call (by kernel_rfl) (by kernel_rfl) (fun w10 b K hK => ?_)
              replace np := np.on b
              replace no_ := no_.on b
              replace nl := nl.on b
              replace k7 := k7.on b
              replace hA := hA.on b
              replace hp8 := hp8.on b
              replace hp9 := hp9.on b
              replace hp10 := hp10.on b
              replace BW := Below.step BW b
              clear b
              go_simp
              refine (parts_as nl (by omega)).mono ?_
              rintro en w11 ⟨A11, c11, rfl, hp11, sw11, b⟩
              dsimp only
              refine hK _ _ b ?_
              clear hK K
              replace np := np.on b
              replace no_ := no_.on b
              replace nl := nl.on b
              replace k7 := k7.on b
              replace hA := hA.on b
              replace hp8 := hp8.on b
              replace hp9 := hp9.on b
              replace hp10 := hp10.on b
              replace BW := Below.step BW b
              clear b
              refine lex_call (by kernel_rfl) (by kernel_rfl) (fun w12 b K hK => ?_)
              replace np := np.on b
              replace no_ := no_.on b
              replace nl := nl.on b
              replace k7 := k7.on b
              replace hA := hA.on b
              replace hp8 := hp8.on b
              replace hp9 := hp9.on b
              replace hp10 := hp10.on b
              replace hp11 := hp11.on b
              replace BW := Below.step BW b
              clear b
              go_simp
              refine (same7_eq hp10 hp11 (by omega)).mono ?_
              rintro en w13 ⟨rfl, b⟩
              dsimp only
              refine hK _ _ b ?_
              clear hK K
              replace np := np.on b
              replace no_ := no_.on b
              replace nl := nl.on b
              replace k7 := k7.on b
              replace hA := hA.on b
              replace hp8 := hp8.on b
              replace hp9 := hp9.on b
              replace hp10 := hp10.on b
              replace hp11 := hp11.on b
              replace BW := Below.step BW b
              clear b
              have lf0 := fun s : Wd w13 => (k7.on s.below).2
              refine lex_plain 2 (by kernel_rfl) ?_
              dsimp only [List.take, List.drop]
              repeat go_big_quiet_step (fail)
              refine wpQuiet_nil ?_
              clear lf0
              refine lex_nil (fun w14 b => ?_)
              replace np := np.on b
              replace no_ := no_.on b
              replace nl := nl.on b
              replace k7 := k7.on b
              replace hA := hA.on b
              replace hp8 := hp8.on b
              replace hp9 := hp9.on b
              replace hp10 := hp10.on b
              replace hp11 := hp11.on b
              replace BW := Below.step BW b
              clear b
              dsimp only [NoPanic]
              go_wp2_with fail
              go_roundw
              case rel => exact ⟨i + 1, by omega, by go_num, Lib.hid hA, Lib.hid BW⟩
              case measure => simp [intOf]; omega
            · obtain rfl : i = ml := by omega
              go_wp2_with fail
              refine (resetAt_as HK.out HA.out).mono ?_
              rintro en w6 ⟨⟨u, rfl⟩, g2, hA2, G⟩
              have B2 : Below w4.heap.size w4 w6 := HB.out.grown G HB.out.size fun k hk => by injection hk with hk; omega
              have hg2 : w4.heap.size ≤ g2 := by have := hA2.low; have := HK.out.hp; omega
              go_wp2_with fail
              go_roundw
              case rel => exact ⟨r + 1, g2, by omega, by go_num, hg2, Lib.hid hA2, Lib.hid B2⟩
              case measure => simp [intOf]; omega
        · obtain rfl : r = 2 := by omega
          go_wp2_with fail
          go_ret
          exact ⟨rfl, HW4.out.trans (HB.out.mono HW4.out.size)⟩
    · have he0 : (e != 0) = true := by simpa using he
      have hl0 : l = [] := runA_no HR.out he
      subst hl0
      have hml : ml = 0 := hl.len.symm
      subst hml
      clear he
      go_wp2_with fail
      go_ret
      exact ⟨rfl, Below.step BW BS⟩
end Go.Proofs.Ythdngohdkfkpiaa

namespace Go.Proofs.Ythdngohdkfkpiaa
open Go.RowKit Go.ChangeShapes Go.WideShapes
set_option linter.unusedVariables false
set_option maxRecDepth 4000

theorem row_arg7 {W : World} {x : Addr} {len cap : Nat} {zs : List Int} (hl : len ≤ cap) (hm : cap ≤ maxLen) (hz : zs.length = cap) (hcell : ∀ i, i < zs.length → W.cell? (x.add i) = some (.int .u32 (zs.getD i 0))) (hwf : ∀ n ∈ zs, (Lit.int .u32 n).wf = true) :
    ∃ v, Arg W (some x) len cap v := by
  have hb : ∀ n ∈ zs, 0 ≤ n ∧ n < 4294967296 := fun n hn => by
    have := hwf n hn
    simp [Lit.wf, IntKind.min, IntKind.max, IntKind.signed, IntKind.bits] at this
    omega
  have hnat : ∀ n ∈ zs, ((n.toNat : Nat) : Int) = n := fun n hn => by have := hb n hn; omega
  refine ⟨_, (zs.take len).map Int.toNat, ⟨⟨?_, ?_⟩, ?_⟩, hl, hm, rfl⟩
  · rw [U_len, List.length_map, List.length_take, hz]
    omega
  · intro i u hu
    rw [U_at, List.getElem?_map, List.getElem?_take] at hu
    split at hu
    · rename_i hi
      have hil : i < zs.length := by omega
      rw [List.getElem?_eq_getElem hil] at hu
      simp only [Option.map_some, Option.some.injEq] at hu
      rw [hnat _ (List.getElem_mem hil)] at hu
      have hc := hcell i hil
      rw [List.getD_eq_getElem?_getD, List.getElem?_eq_getElem hil, Option.getD_some, hu] at hc
      obtain ⟨b, off, spot⟩ := x
      have hc0 := hcell 0 (by omega)
      have hspot : spot = none := by simpa [Addr.add] using World.cell?_spot hc0
      subst hspot
      have hadd : (⟨b, off, none⟩ : Addr).add i = ⟨b, off + i, none⟩ := by
        unfold Addr.add
        split
        · rename_i e; subst e; rfl
        · rfl
      rw [hadd] at hc
      refine ⟨b, off, rfl, ?_, hc⟩
      rcases Nat.lt_or_ge b W.heap.size with h1 | h1
      · exact h1
      · simp only [World.cell?] at hc
        rw [Array.getElem?_eq_none h1] at hc
        cases hc
    · simp at hu
  · intro y hy
    obtain ⟨n, hn, rfl⟩ := List.mem_map.1 hy
    have := hb n (List.mem_of_mem_take hn)
    omega
theorem u8_wf {y : Int} (h : (Lit.int .u8 y).wf = true) : 0 ≤ y ∧ y ≤ 255 := by
  simp [Lit.wf, IntKind.min, IntKind.max, IntKind.signed, IntKind.bits] at h
  omega
section
variable {H : Type} {enc : TypeId × Value → H} {w : World}
theorem bytes_u32 : Try.prog.bytesOf 63 = 4 := by kernel_rfl
theorem bytes_nat : Try.prog.bytesOf 65 = 24 := by kernel_rfl
theorem bytes_nats : Try.prog.bytesOf 39 = 24 := by kernel_rfl
theorem cells_u32 : Try.prog.cellsOf 63 = 1 := by kernel_rfl
theorem cells_nat : Try.prog.cellsOf 65 = 1 := by kernel_rfl
theorem cells_nats : Try.prog.cellsOf 39 = 1 := by kernel_rfl
theorem open_num6 {fuel : Nat} {v : Value} {x : DataW H × List MemPlace} (h : DataW.trod enc Try.prog w 0 (fun _ => true) true fuel 65 [v] = some x) (hz : ∀ n ∈ x.1.weights Try.prog 65, n ≤ RB) :
    ∃ A n c y, v = .slice A n c ∧ Arg w A n c y ∧ n ≤ RB ∧ Sw A n c := by
  rcases open_ints Try.underlying65 Try.underlying63 cells_u32 h with ⟨hcs, _⟩ | ⟨a, l, c, zs, hcs, _, hl, hm, hzl, hx, hcell, hwz⟩
  · cases hcs
    exact ⟨none, 0, 0, 0, rfl, (Res.none_ w).arg (by omega), by omega, Sw.nil_⟩
  · cases hcs
    simp only [if_true] at hzl
    obtain ⟨y, hy⟩ := row_arg7 hl hm hzl hcell hwz
    have hc : c ≤ RB := by
      have := hz (c * Try.prog.bytesOf 63) (by
        rw [hx]
        simp only [DataW.weights, Try.underlying65, List.mem_cons, List.length_map, lits, List.length_take, List.length_drop, hzl]
        exact .inl (by congr 1; omega))
      rw [bytes_u32] at this
      omega
    exact ⟨some a, l, c, y, rfl, hy, by omega, ⟨hl, hm, fun e => by cases e⟩⟩
theorem open_row6 {fuel : Nat} {v : Value} {x : DataW H × List MemPlace} (h : DataW.trod enc Try.prog w 0 (fun _ => true) true fuel 39 [v] = some x) (hz : ∀ n ∈ x.1.weights Try.prog 39, n ≤ RB) :
    ∃ A n c xs, v = .slice A n c ∧ Nu w A n xs ∧ n ≤ RB ∧ Sw A n c := by
  rcases Go.Deep.open_slice Try.underlying39 h with ⟨hcs, _⟩ | ⟨a, l, c, m, fu, D, Pl, hcs, _, hl, hm, hmm, hx, hel⟩
  · cases hcs
    exact ⟨none, 0, 0, [], rfl, ⟨[], Rw.nil_, rfl, fun r hr => by cases hr⟩, by omega, Sw.nil_⟩
  · cases hcs
    simp only [if_true] at hmm
    subst hmm
    have hc : m ≤ RB := by
      have := hz (m * Try.prog.bytesOf 65) (by
        rw [hx]
        simp only [DataW.weights, Try.underlying39, List.mem_cons, List.length_map, List.length_range]
        exact .inl (by congr 1; omega))
      rw [bytes_nat] at this
      omega
    have hel' : ∀ k < l, ∀ n ∈ (D k).weights Try.prog 65, n ≤ RB := fun k hk n hn => hz n (by
      rw [hx]
      simp only [DataW.weights, Try.underlying39, List.mem_cons, List.mem_append]
      exact .inr (.inl (weights_all (List.mem_map.2 ⟨k, List.mem_range.2 hk, rfl⟩) n hn)))
    obtain ⟨L, hL1, hL2⟩ := list_ex (Q := fun (k : Nat) (r : Sn) => (∃ b off, some a = some ⟨b, off, none⟩ ∧ b < w.heap.size ∧ w.cell? ⟨b, off + k, none⟩ = some (snC r)) ∧ Arg w r.A r.m r.c r.x ∧ r.m ≤ 140737488351232) l (fun k hk => by
      have hs : a.spot = none := by
        obtain ⟨cs, h1, _⟩ := hel 0 (by omega)
        rw [cells_nat] at h1
        obtain ⟨_, hcl, hce⟩ := World.cells?_some h1
        have g0 := hce 0 (by omega)
        rw [Go.Deep.add_add, Nat.zero_mul, List.getElem?_eq_getElem (by omega)] at g0
        exact spot_of g0
      obtain ⟨cs, h1, h2⟩ := hel k (by omega)
      rw [cells_nat] at h1
      obtain ⟨_, hcl, hce⟩ := World.cells?_some h1
      obtain ⟨c0, rfl⟩ : ∃ c0, cs = [c0] := by
        match cs, hcl with
        | [c0], _ => exact ⟨c0, rfl⟩
      obtain ⟨A', m', c', y, rfl, ha, hr, _⟩ := open_num6 h2 (hel' k hk)
      have g0 := hce 0 (by omega)
      rw [Go.Deep.add_add, Nat.mul_one, Nat.add_zero] at g0
      obtain ⟨b, o, rfl, hb, q0⟩ := one_at hs g0
      exact ⟨⟨A', m', c', y⟩, ⟨b, o, rfl, hb, q0⟩, ha, hr⟩)
    exact ⟨some a, l, m, L.map Sn.x, rfl, ⟨L, ⟨by rw [List.length_map]; exact hL1, fun k u hu => by
      rw [List.getElem?_map] at hu
      cases e : L[k]? with
      | none => rw [e] at hu; cases hu
      | some r =>
        rw [e] at hu
        cases hu
        exact (hL2 k r e).1⟩, rfl, fun r hr => by
      obtain ⟨k, hk⟩ := List.mem_iff_getElem?.1 hr
      exact (hL2 k r hk).2⟩, by omega, ⟨hl, hm, fun e => by cases e⟩⟩
theorem open_script6 {v : Value} {d : DataW H} {p : List MemPlace} {b0 : Nat} (hv : Value.okWide Try.prog w .any b0 26 v) (h0 : DataW.Trod enc Try.prog w 0 (fun _ => true) true 26 v d p) (hz : ∀ n ∈ d.weights Try.prog 26, n ≤ RB) :
    ∃ A n c xss, v = .slice A n c ∧ Nn w A n xss ∧ n ≤ RB ∧ Sw A n c := by
  obtain ⟨ao, lo, co, rfl⟩ := okWide_slice Try.underlying26 hv
  obtain ⟨fuel, h⟩ := h0
  rcases Go.Deep.open_slice Try.underlying26 h with ⟨hcs, _⟩ | ⟨a, l, c, m, fu, D, Pl, hcs, _, hl, hm, hmm, hx, hel⟩
  · simp [Value.cells] at hcs
    obtain ⟨rfl, rfl, rfl⟩ := hcs
    exact ⟨none, 0, 0, [], rfl, ⟨[], Rw.nil_, rfl, fun r hr => by cases hr⟩, by omega, Sw.nil_⟩
  · simp [Value.cells] at hcs
    obtain ⟨e1, e2, e3⟩ := hcs
    replace e1 := e1.symm
    replace e2 := e2.symm
    replace e3 := e3.symm
    subst e1 e2 e3
    simp only [if_true] at hmm
    subst hmm
    have hc : m ≤ RB := by
      have := hz (m * Try.prog.bytesOf 39) (by
        injection hx with hx1 hx2
        rw [hx1]
        simp only [DataW.weights, Try.underlying26, List.mem_cons, List.length_map, List.length_range]
        exact .inl (by congr 1; omega))
      rw [bytes_nats] at this
      omega
    have hel' : ∀ k < l, ∀ n ∈ (D k).weights Try.prog 39, n ≤ RB := fun k hk n hn => hz n (by
      injection hx with hx1 hx2
      rw [hx1]
      simp only [DataW.weights, Try.underlying26, List.mem_cons, List.mem_append]
      exact .inr (.inl (weights_all (List.mem_map.2 ⟨k, List.mem_range.2 hk, rfl⟩) n hn)))
    obtain ⟨L, hL1, hL2⟩ := list_ex (Q := fun (k : Nat) (r : Sm) => (∃ b off, some a = some ⟨b, off, none⟩ ∧ b < w.heap.size ∧ w.cell? ⟨b, off + k, none⟩ = some (smC r)) ∧ Nu w r.A r.m r.xs ∧ Sw r.A r.m r.c ∧ r.m ≤ 140737488351232) l (fun k hk => by
      have hs : a.spot = none := by
        obtain ⟨cs, h1, _⟩ := hel 0 (by omega)
        rw [cells_nats] at h1
        obtain ⟨_, hcl, hce⟩ := World.cells?_some h1
        have g0 := hce 0 (by omega)
        rw [Go.Deep.add_add, Nat.zero_mul, List.getElem?_eq_getElem (by omega)] at g0
        exact spot_of g0
      obtain ⟨cs, h1, h2⟩ := hel k (by omega)
      rw [cells_nats] at h1
      obtain ⟨_, hcl, hce⟩ := World.cells?_some h1
      obtain ⟨c0, rfl⟩ : ∃ c0, cs = [c0] := by
        match cs, hcl with
        | [c0], _ => exact ⟨c0, rfl⟩
      obtain ⟨A', m', c', ys, rfl, ha, hr, sw⟩ := open_row6 h2 (hel' k hk)
      have g0 := hce 0 (by omega)
      rw [Go.Deep.add_add, Nat.mul_one, Nat.add_zero] at g0
      obtain ⟨b, o, rfl, hb, q0⟩ := one_at hs g0
      exact ⟨⟨A', m', c', ys⟩, ⟨b, o, rfl, hb, q0⟩, ha, sw, hr⟩)
    exact ⟨some a, l, m, L.map Sm.xs, rfl, ⟨L, ⟨by rw [List.length_map]; exact hL1, fun k u hu => by
      rw [List.getElem?_map] at hu
      cases e : L[k]? with
      | none => rw [e] at hu; cases hu
      | some r =>
        rw [e] at hu
        cases hu
        exact (hL2 k r e).1⟩, rfl, fun r hr => by
      obtain ⟨k, hk⟩ := List.mem_iff_getElem?.1 hr
      exact (hL2 k r hk).2⟩, by omega, ⟨hl, hm, fun e => by cases e⟩⟩
end
end Go.Proofs.Ythdngohdkfkpiaa
