
/-
  Layer 6: the walk of NetOrders.
-/
import Derived.Test.YtcmdfkmjbfppgaaGcd
import Derived.Test.YtcmdfkmjbfppgaaGbc
import Derived.Test.YtcmdfkmjbfppgaaGbd
import Derived.Test.YtcmdfkmjbfppgaaGq
import Derived.Maps.Views
import Derived.Maps.Own
import Derived.Maps.OwnOps
import Derived.Maps.OwnSet
namespace Go.Proofs.Ytcmdfkmjbfppgaa
open Go.RowKit
open Go.Maps (Keyed)
set_option linter.unusedVariables false
set_option maxRecDepth 4000

def kI (x : Int) : Lit := .int .i64 x
/-- the call's own map of places. -/
def MapI (w : World) (b n : Nat) (D : DataW Unit) : Prop := w.ownsMap Try.prog 3 (plainElem Try.prog 3) b n D
theorem MapI.below {w w' : World} {b n : Nat} {D : DataW Unit} (h : MapI w b n D) (hb : Below w.heap.size w w') : MapI w' b n D := by
  obtain ⟨es, clock, h1, h2⟩ := h
  exact ⟨es, clock, (hb.block b (Array.getElem?_eq_some_iff.1 h1).1).trans h1, h2⟩
theorem wf_i64 {x : Int} (h0 : 0 ≤ x) (h1 : x ≤ 1000000) : (Lit.int .i64 x).wf = true := by
  have e1 : IntKind.i64.min = -9223372036854775808 := rfl
  have e2 : IntKind.i64.max = 9223372036854775807 := rfl
  simp [Lit.wf]
  omega
/-- what the map says behind j steps. -/
structure Pl (o : List Int) (j : Nat) (D : DataW Unit) : Prop where
  size : Maps.size D = j
  at_ : ∀ i x, i < j → o[i]? = some x → D.atKey (kI x) (.lit (kI 0)) = .lit (kI i)
  no : ∀ x, x ∉ o.take j → Maps.has D (kI x) = false
theorem Pl.start (o : List Int) : Pl o 0 (.map []) where
  size := rfl
  at_ := fun i x h _ => by omega
  no := fun x _ => rfl
theorem Pl.step {o : List Int} {j : Nat} {D : DataW Unit} {x : Int} (h : Pl o j D) (hm : Maps.IsMap D) (ht : Maps.Tidy D) (hx : o[j]? = some x) (hn : x ∉ o.take j) : Pl o (j + 1) (D.put (kI x) (.lit (kI j))) where
  size := by
    rw [Maps.size_put ht, h.no x hn, h.size]
    rfl
  at_ := fun i y hi hy => by
    by_cases e : i = j
    · subst e
      rw [hx] at hy
      cases hy
      exact Maps.atKey_put_same hm (by trivial) _ _
    · have hne : kI y ≠ kI x := by
        intro e2
        injection e2 with _ e2
        subst e2
        exact hn (List.mem_of_getElem? (i := i) (by rw [List.getElem?_take, if_pos (by omega)]; exact hy))
      rw [Maps.atKey_put_other hne]
      exact h.at_ i y (by omega) hy
  no := fun y hy => by
    rw [List.take_add_one, hx] at hy
    simp only [Option.toList_some, List.mem_append, List.mem_singleton, not_or] at hy
    rw [Maps.has_put_other (by intro e; injection e with _ e; exact hy.2 e)]
    exact h.no y hy.1
theorem not_taken {o : List Int} (hd : o.Nodup) {j : Nat} {x : Int} (hx : o[j]? = some x) : x ∉ o.take j := by
  intro hm
  obtain ⟨i, hi⟩ := List.mem_iff_getElem?.1 hm
  rw [List.getElem?_take] at hi
  split at hi
  · rename_i hij
    have h1 := List.getElem?_eq_some_iff.1 hi
    have h2 := List.getElem?_eq_some_iff.1 hx
    obtain ⟨l1, e1⟩ := h1
    obtain ⟨l2, e2⟩ := h2
    exact (List.pairwise_iff_getElem.1 hd) i j l1 l2 hij (e1.trans e2.symm)
  · cases hi
/-- the level of each node that has one. -/
structure Lv (N : List Nd) (dd : List Nat) : Prop where
  len : dd.length = N.length
  all : All N (fun i => dd.getD i 0)
theorem lev_some {N : List Nd} {I O : List Pt} {dd : List Nat} {e : Int} (hl : levelS N I O = (some dd, e)) : e = 0 ∧ Lv N dd ∧ N.all (formedS N.length) = true := by
  unfold levelS at hl
  split at hl
  · injection hl with h1 h2
    cases h1
  · rename_i h0
    have h0 : wrongS N I O = 0 := by simpa using h0
    split at hl
    · rename_i d hd
      injection hl with h1 h2
      injection h1 with h1
      subst h1
      obtain ⟨a, b⟩ := levS_some hd
      exact ⟨h2.symm, ⟨a, b⟩, wrong_form h0⟩
    · injection hl with h1 h2
      cases h1
theorem some_lv {N : List Nd} {I O : List Pt} {d : Option (List Nat)} (hl : levelS N I O = (d, 0)) : ∃ dd, d = some dd := by
  unfold levelS at hl
  split at hl
  · rename_i h
    injection hl with h1 h2
    exact absurd h2 h
  · split at hl
    · injection hl with h1 h2
      exact ⟨_, h1.symm⟩
    · injection hl with h1 h2
      cases h2
theorem lev_none {N : List Nd} {I O : List Pt} {e : Int} (hl : levelS N I O = (none, e)) : e ≠ 0 := by
  intro e0
  subst e0
  obtain ⟨dd, h⟩ := some_lv hl
  cases h
theorem ordS_len {N : List Nd} {dd : List Nat} (h : Lv N dd) : (ordS dd).length = N.length := by
  unfold ordS
  rw [List.length_map, ordU_len]
  unfold Lt
  rw [Cn_all fun i hi => ?_, h.len]
  have := all_lt h.all (show i < N.length by rw [← h.len]; exact hi)
  rw [h.len]
  simp
  simpa using this
theorem ordS_nodup (dd : List Nat) : (ordS dd).Nodup := by
  unfold ordS
  exact (ordU_nodup _ _ _).map _ (fun a b h e => h (by have e2 : (a : Int) = (b : Int) := e; omega))
theorem ordS_bd (dd : List Nat) : ∀ x ∈ ordS dd, 0 ≤ x ∧ x < dd.length := by
  intro x hx
  unfold ordS at hx
  obtain ⟨i, hi, rfl⟩ := List.mem_map.1 hx
  have := ((ordU_mem _ _).1 hi).1
  omega
/-- places, by the map. -/
theorem Pl.place {N : List Nd} {dd : List Nat} {D : DataW Unit} (h : Lv N dd) (hp : Pl (ordS dd) N.length D) : ∀ i < N.length, D.atKey (kI i) (.lit (kI 0)) = .lit (kI (posS (fun i => dd.getD i 0) dd.length i)) := by
  intro i hi
  have hlt : dd.getD i 0 < dd.length := by have := all_lt h.all hi; rw [h.len]; exact this
  have h1 := ordU_at (fun i => dd.getD i 0) dd.length (v := dd.length) (i := i) (by rw [h.len]; exact hi) hlt
  have h2 : (ordS dd)[posS (fun i => dd.getD i 0) dd.length i]? = some (i : Int) := by
    unfold ordS
    rw [List.getElem?_map, h1]
    rfl
  refine hp.at_ _ _ ?_ h2
  have := (List.getElem?_eq_some_iff.1 h2).1
  rwa [ordS_len h] at this
theorem most_lev {N : List Nd} {dd : List Nat} (h : Lv N dd) {i : Nat} {x : Nd} (hx : N[i]? = some x) (h7 : x.k ≠ 7) : mostR (dd.map fun x : Nat => (x : Int)) (usesS x) + 1 = (dd.getD i 0 : Int) ∧ ∀ p ∈ usesS x, ∃ j : Nat, j < N.length → True := by
  refine ⟨?_, fun p hp => ⟨0, fun _ => trivial⟩⟩
  have hi := (List.getElem?_eq_some_iff.1 hx).1
  obtain ⟨y, hy, h1, h2⟩ := h.all i hi
  rw [hx] at hy
  cases hy
  have hn : needS x = (usesS x).map Int.toNat := by unfold needS; rw [if_neg h7]
  have hk : ∀ j < N.length, (dd.map fun x : Nat => (x : Int))[j]? = some ((dd.getD j 0 : Nat) : Int) := fun j hj => by
    rw [List.getElem?_map, List.getD_eq_getElem?_getD, List.getElem?_eq_getElem (by rw [h.len]; exact hj)]
    rfl
  rw [mostR_over fun p hp => ⟨_, hk p.toNat (h1 _ (by rw [hn]; exact List.mem_map.2 ⟨p, hp, rfl⟩))⟩, ← hn]
  show ((overS _ _ : Nat) : Int) = _
  have h2' : dd.getD i 0 = overS (fun i => dd.getD i 0) (needS x) := h2
  rw [h2']
  congr 1
  refine over_congr fun j hj => ?_
  rw [Fn_at (hk j (h1 j hj))]
theorem lev_map (dd : List Nat) (y : Nat) : (dd.map fun x : Nat => (x : Int)).getD y 0 = (dd.getD y 0 : Int) := by
  rw [List.getD_eq_getElem?_getD, List.getD_eq_getElem?_getD, List.getElem?_map]
  cases dd[y]? <;> rfl
theorem lev_at {dd : List Nat} {y : Nat} {l : Int} (h : (ints (some dd))[y]? = some l) : l = (dd.getD y 0 : Int) := by
  rw [← lev_map, List.getD_eq_getElem?_getD]
  unfold ints at h
  simp only [Option.getD_some] at h
  rw [h]
  rfl
theorem formed_kind {N : List Nd} {n : Nat} (hf : N.all (formedS n) = true) {i : Nat} {x : Nd} (hx : N[i]? = some x) : 0 ≤ x.k := by
  have h1 := List.all_eq_true.1 hf x (List.mem_of_getElem? hx)
  unfold formedS kindS at h1
  simp only [Bool.and_eq_true, decide_eq_true_eq] at h1
  exact h1.1.1
theorem need_of {x : Nd} (h7 : x.k ≠ 7) {y : Nat} (hy : (y : Int) ∈ usesS x) : y ∈ needS x := by
  unfold needS
  rw [if_neg h7]
  exact List.mem_map.2 ⟨_, hy, rfl⟩
theorem lev_zero {N : List Nd} {dd : List Nat} (h : Lv N dd) {i : Nat} {x : Nd} (hx : N[i]? = some x) (h7 : x.k = 7 ∨ (0 ≤ x.k ∧ x.k ≤ 1)) : dd.getD i 0 = 0 := by
  have hi := (List.getElem?_eq_some_iff.1 hx).1
  obtain ⟨y, hy, h1, h2⟩ := h.all i hi
  rw [hx] at hy
  cases hy
  have h2' : dd.getD i 0 = overS (fun i => dd.getD i 0) (needS x) := h2
  rw [h2']
  have : needS x = [] := by
    unfold needS
    rcases h7 with h7 | h7
    · rw [if_pos h7]
    · rw [if_neg (by omega)]
      unfold usesS manyS
      rw [if_neg (by omega), if_neg (by omega), if_neg (by omega)]
      rfl
  rw [this]
  rfl
theorem pos_of_use {N : List Nd} {dd : List Nat} (h : Lv N dd) {i j : Nat} {x : Nd} (hx : N[i]? = some x) (hj : j ∈ needS x) : j < N.length ∧ posS (fun i => dd.getD i 0) dd.length j < posS (fun i => dd.getD i 0) dd.length i := by
  have hi := (List.getElem?_eq_some_iff.1 hx).1
  obtain ⟨y, hy, h1, h2⟩ := h.all i hi
  rw [hx] at hy
  cases hy
  have hjn := h1 j hj
  refine ⟨hjn, pos_lt_of _ _ (by rw [h.len]; exact hjn) ?_⟩
  have h2' : dd.getD i 0 = overS (fun i => dd.getD i 0) (needS x) := h2
  show dd.getD j 0 < dd.getD i 0
  rw [h2']
  exact over_lt (fun i => dd.getD i 0) hj
set_option maxRecDepth 20000 in
set_option maxHeartbeats 8000000 in
theorem netOrders_as {An Ai Ao : Option Addr} {nn cn ni ci no co : Nat} {N : List Nd} {I O : List Pt} {w : World} (h : NetIn w An nn cn Ai ni ci Ao no co N I O) :
    Calls Try.prog 5 #[.agg #[.slice An nn cn, .slice Ai ni ci, .slice Ao no co]] w fun en w' => en = .returned (.bool true) ∧ Below w.heap.size w w' := by
  go_enter Try.func5, Try.ntmps5
  go_upto_region 1 with fail
  obtain ⟨w1, e_w1⟩ : ∃ w', w.alloc (.cells #[.slice An nn cn, .slice Ai ni ci, .slice Ao no co] 25) = w' := ⟨_, rfl⟩
  have b : Below w.heap.size w w1 := e_w1 ▸ below_lit _ _
  have hs_w1 : w1.heap.size = w.heap.size + 1 := e_w1 ▸ size_lit w _ rfl
  have z0 : Bx w1 w.heap.size [.slice An nn cn, .slice Ai ni ci, .slice Ao no co] := e_w1 ▸ Bx.made_k w rfl #[.slice An nn cn, .slice Ai ni ci, .slice Ao no co] 25
  rw [e_w1]
  clear e_w1
  replace h := h.on b
  have BW := b
  clear b
  clear hs_w1
  go_wp2_with fail
  refine (awake6_any _).mono ?_
  rintro en w2 ⟨rfl, b⟩
  replace h := h.on b
  replace z0 := z0.on b
  replace BW := Below.step BW b
  clear b
  have z0c0 := z0.2 0 _ rfl
  have z0c1 := z0.2 1 _ rfl
  have z0c2 := z0.2 2 _ rfl
  go_wp2_with fail
  obtain ⟨v, hv⟩ : ∃ v, largeS nn ni no I O 60 = v := ⟨_, rfl⟩
  have HV := Lib.hid hv
  clear hv
  refine (h.large v HV.out).mono ?_
  rintro en w3 ⟨rfl, b⟩
  clear z0c0 z0c1 z0c2
  replace h := h.on b
  replace z0 := z0.on b
  replace BW := Below.step BW b
  clear b
  cases v
  case true =>
    go_wp2_with fail
    go_ret
    exact ⟨rfl, BW⟩
  obtain ⟨hn, hn60, hi66, ho66, hbb⟩ := h.nt HV.out
  obtain ⟨d, e, hl⟩ : ∃ d e, levelS N I O = (d, e) := ⟨_, _, rfl⟩
  have HL := Lib.hid hl
  clear h
  clear hl hbb HV
  have z0c0 := z0.2 0 _ rfl
  have z0c1 := z0.2 1 _ rfl
  have z0c2 := z0.2 2 _ rfl
  go_wp2_with fail
  refine (order_as hn HL.out).mono ?_
  rintro en w4 ⟨A3, m3, c3, rfl, hi3, hmc3, b⟩
  clear z0c0 z0c1 z0c2
  replace z0 := z0.on b
  replace hn := hn.on b
  replace BW := Below.step BW b
  clear b
  have z0c0 := z0.2 0 _ rfl
  have z0c1 := z0.2 1 _ rfl
  have z0c2 := z0.2 2 _ rfl
  go_wp2_with fail
  refine (levels_as hn HL.out).mono ?_
  rintro en w5 ⟨A2, m2, c2, rfl, hi2, hmc2, b⟩
  clear z0c0 z0c1 z0c2
  replace z0 := z0.on b
  replace hn := hn.on b
  replace hi3 := hi3.on b
  replace BW := Below.step BW b
  clear b
  cases d with
  | none =>
    have e1 : (e != 0) = true := by have := lev_none HL.out; simp [this]
    obtain rfl : m3 = 0 := by rw [← hi3.1]; rfl
    obtain rfl : m2 = 0 := by rw [← hi2.1]; rfl
    go_wp2_with fail
    go_ret
    exact ⟨rfl, BW⟩
  | some dd =>
    obtain ⟨rfl, hlv, hfo⟩ := lev_some HL.out
    have LV := Lib.hid hlv
    have HFO : Hid (N.all (formedS nn) = true) := Lib.hid (by have := hfo; rwa [hn.n.1] at this)
    have HLN : Hid (N.length = nn) := Lib.hid hn.n.1
    obtain rfl : m3 = nn := by rw [← hi3.1, ← hn.n.1]; exact ordS_len hlv
    obtain rfl : m2 = m3 := by rw [← hi2.1, ← hn.n.1]; unfold ints; rw [List.length_map]; exact hlv.len
    have HO : Hid (ordO (some dd) = ordS dd) := Lib.hid rfl
    rw [HO.out] at hi3
    clear hlv hfo HO
    have z0c0 := z0.2 0 _ rfl
    have z0c1 := z0.2 1 _ rfl
    have z0c2 := z0.2 2 _ rfl
    have hmm := @run_makeMap Try.prog
    go_wp2_with fail
    clear hmm
    obtain ⟨wm, e_wm⟩ : ∃ w', w5.alloc (.map #[] 0) = w' := ⟨_, rfl⟩
    have bm : Below w5.heap.size w5 wm := e_wm ▸ below_lit _ _
    obtain ⟨mb, hmb⟩ : ∃ mb, w5.heap.size = mb := ⟨_, rfl⟩
    have hM : MapI wm mb 0 (.map []) := by rw [← hmb]; exact e_wm ▸ World.ownsMap_made w5 Try.prog 3 _
    have hmb1 : w5.heap.size ≤ mb := Nat.le_of_eq hmb
    rw [e_wm, hmb]
    clear e_wm hmb
    clear z0c0 z0c1 z0c2
    go_loopw [47] (fun i wr => ∃ j : Nat, j ≤ m2 ∧ i = .int .i64 j ∧ (∃ n D, MapI wr mb n D ∧ n ≤ 100 ∧ n = j ∧ Hid (Pl (ordS dd) j D)) ∧ Below w5.heap.size w5 wr) (fun i _ => m2 - (intOf i).toNat)
    case atStart => exact ⟨0, Nat.zero_le _, rfl, ⟨_, _, hM, by omega, rfl, Lib.hid (Pl.start _)⟩, bm⟩
    case round =>
      clear hM bm
      obtain ⟨j, hj, rfl, ⟨n, D, hM, hn100, hnj, HP⟩, BR⟩ := hrel
      by_cases hlt : j < m2
      · obtain ⟨b0, off, x, eA, HX, cx⟩ := (hi3.on BR).at hlt
        subst eA
        have hj0 : (0 : Int) ≤ (j : Int) := by omega
        have hj1 : (j : Int) < (m2 : Int) := by omega
        have hxb := ordS_bd dd x (List.mem_of_getElem? HX.out)
        have hdl : dd.length = m2 := by rw [LV.out.len, HLN.out]
        have hkey : keyOf Try.prog 3 (.int .i64 x) = some (kI x) := Maps.keyOf_int_mk Try.underlying3 (wf_i64 hxb.1 (by omega))
        have hval : plainElem (H := Unit) Try.prog 3 (.int .i64 (j : Int)) = some (.lit (kI j), []) := plainElem_int Try.underlying3 (wf_i64 (by omega) (by omega))
        have HP2 : Hid (Pl (ordS dd) (j + 1) (D.put (kI x) (.lit (kI j)))) := Lib.hid (HP.out.step hM.isMap (hM.tidy (Maps.int_keyed Try.underlying3)) HX.out (not_taken (ordS_nodup dd) HX.out))
        have hnl : n < maxLen := by unfold maxLen; omega
        clear hdl hxb
        go_wp2_with (at_mapUpdate; refine wpList_mapUpdate_own _ rfl _ _ _ 46 rfl 3 3 (Maps.int_keyed Try.underlying3) Try.underlying46 _ mb n D rfl hM hnl _ _ (kI x) rfl rfl hkey (.lit (kI j)) [] hval ?_; intro w5 hM5 hG5)
        have BR5 := BR.grown hG5 BR.size (fun k hk => by injection hk with hk; omega)
        go_roundw
        case rel => exact ⟨j + 1, by omega, by go_num, ⟨n + 1, _, hM5, by omega, by omega, HP2⟩, BR5⟩
        case measure => simp [intOf]; omega
      · obtain rfl : j = m2 := by omega
        have hj1 : ¬ (j : Int) < (j : Int) := by omega
        subst hnj
        have HPL : Hid (∀ i < n, D.atKey (kI i) (.lit (kI 0)) = .lit (kI (posS (fun i => dd.getD i 0) dd.length i))) := Lib.hid (by have := Pl.place LV.out (by rw [HLN.out]; exact HP.out); rwa [HLN.out] at this)
        have hlen := hM.len Try.underlying46 3
        rw [HP.out.size] at hlen
        obtain ⟨w6, rfl⟩ : ∃ x, x = wr := ⟨_, rfl⟩
        replace z0 := z0.on BR; replace hn := hn.on BR; replace hi3 := hi3.on BR; replace hi2 := hi2.on BR; replace BW := Below.step BW BR
        clear BR HP
        have z0c0 := z0.2 0 _ rfl
        go_wp2_with fail
        clear z0c0 hlen
        go_loopw [81] (fun i wr => ∃ j : Nat, j ≤ n ∧ i = .int .i64 j ∧ Below w6.heap.size w6 wr) (fun i _ => n - (intOf i).toNat)
        case atStart => exact ⟨0, Nat.zero_le _, rfl, Below.refl _ _⟩
        case round =>
          obtain ⟨j, hj, rfl, BR⟩ := hrel
          by_cases hlt : j < n
          case neg =>
            have hj2 : ¬ (j : Int) < (n : Int) := by omega
            go_wp2_with fail
            go_ret
            exact ⟨rfl, Below.step BW BR⟩
          obtain ⟨b0, off, x1, x2, x3, x4, eA, HX, hA⟩ := (hn.n.on BR).nat hlt
          obtain ⟨lt0, a1, a2, a3, a4⟩ := hA
          subst eA
          have hj0 : (0 : Int) ≤ (j : Int) := by omega
          have hj2 : (j : Int) < (n : Int) := by omega
          go_upto_region 20 with fail
          obtain ⟨w7, e_w7⟩ : ∃ w', wr.alloc (.cells #[.int .i64 x1, .int .i64 x2, .int .i64 x3, .int .i64 x4] 38) = w' := ⟨_, rfl⟩
          have zx : Bx w7 wr.heap.size [.int .i64 x1, .int .i64 x2, .int .i64 x3, .int .i64 x4] := e_w7 ▸ Bx.made_k wr rfl #[.int .i64 x1, .int .i64 x2, .int .i64 x3, .int .i64 x4] 38
          have b7 : Below wr.heap.size wr w7 := e_w7 ▸ below_lit _ _
          rw [e_w7]
          clear e_w7 a1 a2 a3 a4 lt0
          replace BR := Below.step BR b7
          clear b7
          have HJ := Lib.hid (look_place HFO.out HX.out)
          obtain ⟨b2, off2, lj, eB, HY, cl⟩ := (hi2.on BR).at hlt
          have hlj : lj = (dd.getD j 0 : Int) := lev_at HY.out
          have HLJ := Lib.hid hlj
          clear hlj HY
          subst eB
          have zxc0 := zx.2 0 _ rfl
          by_cases h7 : x1 = 7
          case pos =>
            subst h7
            obtain rfl : lj = 0 := by rw [HLJ.out, lev_zero LV.out HX.out (.inl rfl)]; rfl
            clear HLJ
            go_wp2_with fail
            go_roundw
            case rel => exact ⟨j + 1, by omega, by go_num, BR⟩
            case measure => simp [intOf]; omega
          have hk0 : 0 ≤ x1 := formed_kind HFO.out HX.out
          have e7 : (x1 == 7) = false := by simp [h7]
          by_cases h1 : x1 ≤ 1
          case pos =>
            obtain rfl : lj = 0 := by rw [HLJ.out, lev_zero LV.out HX.out (.inr ⟨hk0, h1⟩)]; rfl
            clear HLJ
            go_wp2_with fail
            go_roundw
            case rel => exact ⟨j + 1, by omega, by go_num, BR⟩
            case measure => simp [intOf]; omega
          have HM := Lib.hid (most_lev LV.out HX.out h7).1
          have HU := Lib.hid (fun (y : Nat) (hy : (y : Int) ∈ usesS ⟨x1, x2, x3, x4⟩) => pos_of_use LV.out HX.out (need_of (x := ⟨x1, x2, x3, x4⟩) h7 hy))
          have zxc1 := zx.2 1 _ rfl
          have zxc2 := zx.2 2 _ rfl
          have zxc3 := zx.2 3 _ rfl
          have HH := Lib.hid h7
          clear h7 hk0
          clear cl
          go_wp2_with fail
          refine (uses_as x1 x2 x3 x4 _).mono ?_
          rintro en w8 ⟨A8, m8, c8, rfl, hu, _, b8⟩
          replace BR := Below.step BR b8
          clear zxc0 zxc1 zxc2 zxc3 zx b8 e7 h1
          have hm83 : m8 ≤ 3 := by rw [← hu.1, usesS_length]; exact manyS_le x1
          obtain ⟨L, hL⟩ : ∃ L, usesS ⟨x1, x2, x3, x4⟩ = L := ⟨_, rfl⟩
          rw [hL] at hu HM HU HJ
          clear hL HH HX
          have hM8 := (hM.below BR)
          have hi28 := hi2.on BR
          have hkj : keyOf Try.prog 3 (.int .i64 (j : Int)) = some (kI j) := Maps.keyOf_int_mk Try.underlying3 (wf_i64 (by omega) (by omega))
          obtain ⟨pj, hpj⟩ : ∃ pj, posS (fun i => dd.getD i 0) dd.length j = pj := ⟨_, rfl⟩
          have hpl := HPL.out j hlt
          rw [hpj] at hpl HU
          have HPJ := Lib.hid hpl
          clear hpl hpj
          have HBD : Hid (∀ y < n, (0 : Int) ≤ (dd.getD y 0 : Int) ∧ (dd.getD y 0 : Int) ≤ 1000) := Lib.hid fun y hy => by
            have := all_lt LV.out.all (show y < N.length by rw [HLN.out]; exact hy)
            have h2 := HLN.out
            omega
          go_wp2_with fail
          go_loop [12, 102] (fun a u => ∃ l : Nat, l ≤ m8 ∧ u = .int .i64 l ∧ a = .int .i64 (mostR (dd.map fun x : Nat => (x : Int)) (L.take l))) (fun _ u => m8 - (intOf u).toNat)
          case atStart => exact ⟨0, Nat.zero_le _, rfl, rfl⟩
          case round =>
            obtain ⟨l, hl, rfl, rfl⟩ := hrel
            by_cases hlm : l < m8
            · obtain ⟨b3, off3, x, eC, HX2, cx⟩ := hu.at hlm
              obtain ⟨y, ep, hy⟩ := HJ.out x (List.mem_of_getElem? HX2.out)
              subst ep eC
              have hpos := (HU.out y (List.mem_of_getElem? HX2.out)).2
              obtain ⟨py, hpy⟩ : ∃ py, posS (fun i => dd.getD i 0) dd.length y = py := ⟨_, rfl⟩
              rw [hpy] at hpos
              have hpl := HPL.out y hy
              rw [hpy] at hpl
              have HPY := Lib.hid hpl
              clear hpl hpy
              obtain ⟨b4, off4, ly, eD, HY4, cl4⟩ := hi28.at hy
              injection eD with eD
              injection eD with eD1 eD2
              subst eD1 eD2
              have hly : ly = (dd.getD y 0 : Int) := lev_at HY4.out
              have HMO : Hid (mostR (dd.map fun x : Nat => (x : Int)) (L.take (l + 1)) = max (mostR (dd.map fun x : Nat => (x : Int)) (L.take l)) ly) := Lib.hid (by rw [mostR_snoc HX2.out, Int.toNat_natCast, lev_map, hly])
              clear hly HY4
              have hky : keyOf Try.prog 3 (.int .i64 (y : Int)) = some (kI y) := Maps.keyOf_int_mk Try.underlying3 (wf_i64 (by omega) (by omega))
              have hl0 : (0 : Int) ≤ (l : Int) := by omega
              have hl1 : (l : Int) < (m8 : Int) := by omega
              have hy0 : (0 : Int) ≤ (y : Int) := by omega
              have hy1 : (y : Int) < (n : Int) := by omega
              have hpos2 : ¬ ((pj : Int) ≤ (py : Int)) := by omega
              obtain ⟨mo, hmo⟩ : ∃ mo, mostR (dd.map fun x : Nat => (x : Int)) (L.take l) = mo := ⟨_, rfl⟩
              rw [hmo] at HMO ⊢
              clear hmo hpos
              go_wp2_with (at_lookup; first | (refine wpList_lookup_own_int _ rfl _ _ 46 rfl 3 3 .i64 (Maps.int_keyed Try.underlying3) Try.underlying46 Try.underlying3 (by kernel_rfl) mb n D rfl hM8 _ (kI y) rfl hky ?_; intro cc hat _; have hat2 := HPY.out.symm.trans hat; injection hat2 with hat2; injection hat2 with _ hat2; subst hat2; clear hat) | (refine wpList_lookup_own_int _ rfl _ _ 46 rfl 3 3 .i64 (Maps.int_keyed Try.underlying3) Try.underlying46 Try.underlying3 (by kernel_rfl) mb n D rfl hM8 _ (kI j) rfl hkj ?_; intro cc hat _; have hat2 := HPJ.out.symm.trans hat; injection hat2 with hat2; injection hat2 with _ hat2; subst hat2; clear hat))
              all_goals go_round
              all_goals first
                | (simp [intOf]; omega)
                | exact ⟨l + 1, by omega, by go_num, by rw [HMO.out]; congr 1; (try split) <;> omega⟩
            · obtain rfl : l = m8 := by omega
              have et : L.take l = L := List.take_of_length_le (by rw [hu.1]; exact Nat.le_refl _)
              rw [et]
              clear et
              obtain ⟨mo, hmo⟩ : ∃ mo, mostR (dd.map fun x : Nat => (x : Int)) L = mo := ⟨_, rfl⟩
              rw [hmo] at HM ⊢
              have hb1 := (HBD.out j hlt).1
              have hb2 := (HBD.out j hlt).2
              have hm1 := HM.out
              have h0 : lj = mo + 1 := by rw [HLJ.out, hm1]
              have hmb1 : -1 ≤ mo := by omega
              have hmb2 : mo ≤ 1000 := by omega
              clear hmo hm1 hb1 hb2
              obtain ⟨b4, off4, l4, eD, HY4, cl4⟩ := hi28.at hlt
              injection eD with eD
              injection eD with eD1 eD2
              subst eD1 eD2
              obtain rfl : l4 = mo + 1 := by rw [lev_at HY4.out, ← h0, HLJ.out]
              clear h0 HY4
              have hl1 : ¬ (l : Int) < (l : Int) := by omega
              go_wp2_with fail
              go_roundw
              case rel => exact ⟨j + 1, by omega, by go_num, BR⟩
              case measure => simp [intOf]; omega
end Go.Proofs.Ytcmdfkmjbfppgaa
