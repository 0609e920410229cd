/-
  SimSteps returns true for every net, every script and all bytes, and its arguments read afterwards as before. Condition: the arguments' bulk is at most 1048576 (the second form).
  Layer 7: the state's bits come by rising places.
  Layer 7: the walk of SimSteps.
  Bytes among the arguments, opened.
-/
import Derived.Test.YtacphhfhahgeaaaHR
import Derived.Test.YtacphhfhahgeaaaHL
import Derived.Test.YtacphhfhahgeaaaRows
import Derived.WalkKit
import Derived.ProofKit
import Derived.OpenShut
import Derived.ShutString
import Derived.ChangeOld
import Derived.SizedLaws
import Derived.Below
import Derived.JoinedCond
import Derived.Deep.CondSized
namespace Go.Proofs.Ytacphhfhahgeaaa
set_option linter.unusedVariables false
set_option maxRecDepth 4000

theorem ordU_rise {f : Nat → Nat} {n : Nat} {p : Nat → Bool} (h : ∀ i < n, p i = true → f i = 0) : ∀ v, (ordU f n (v + 1)).filter p = (List.range n).filter p
  | 0 => by
    rw [ordU_succ]
    show ([] ++ _ : List Nat).filter p = _
    rw [List.nil_append, List.filter_filter]
    refine List.filter_congr fun i hi => ?_
    by_cases hp : p i = true
    · rw [hp, h i (List.mem_range.1 hi) hp]
      rfl
    · rw [show p i = false by simpa using hp]
      rfl
  | v + 1 => by
    rw [ordU_succ, List.filter_append, ordU_rise h v, List.filter_filter]
    have e : (List.range n).filter (fun i => p i && decide (f i = v + 1)) = [] := by
      rw [List.filter_eq_nil_iff]
      intro i hi hc
      simp only [Bool.and_eq_true, decide_eq_true_eq] at hc
      have := h i (List.mem_range.1 hi) hc.1
      omega
    rw [e, List.append_nil]
theorem dff_0 {N : List Nd} {f : Nat → Nat} (ha : All N f) {i : Nat} (hi : i < N.length) (h7 : (N.getD i nd0).k = 7) : f i = 0 := by
  obtain ⟨x, hx, _, h2⟩ := ha i hi
  rw [getD_of hx] at h7
  rw [h2]
  unfold needS
  rw [if_pos h7]
  rfl
/-- the Dffs, by rising places. -/
def dffs (N : List Nd) (j : Nat) : List Nat := (List.range j).filter fun q => decide ((N.getD q nd0).k = 7)
theorem regs_rise {N : List Nd} {f : Nat → Nat} (ha : All N f) {n : Nat} (hn : n = N.length) : regsS N (ordU f n n) = dffs N n := by
  unfold regsS dffs
  cases n with
  | zero => rfl
  | succ v => exact ordU_rise (fun i hi hp => dff_0 ha (by omega) (of_decide_eq_true hp)) v
theorem dffs_in {N : List Nd} {j : Nat} (h : (N.getD j nd0).k = 7) : dffs N (j + 1) = dffs N j ++ [j] := by
  unfold dffs
  rw [List.range_succ, List.filter_append]
  congr 1
  rw [List.getD_eq_getElem?_getD] at h
  simp [h]
theorem dffs_out {N : List Nd} {j : Nat} (h : (N.getD j nd0).k ≠ 7) : dffs N (j + 1) = dffs N j := by
  unfold dffs
  rw [List.range_succ, List.filter_append]
  rw [List.getD_eq_getElem?_getD] at h
  simp [h]
/-- what State tells is the state's bits. -/
theorem state_eq {N : List Nd} {now st : List Int} (h : Inv N now st) : stV (nI (dffs N N.length)) now = (dffs N N.length).map fun q => st.getD q 0 := by
  unfold stV nI
  rw [List.map_map]
  refine List.map_congr_left fun q hq => ?_
  unfold dffs at hq
  obtain ⟨h1, h2⟩ := List.mem_filter.1 hq
  show atI now (q : Int) = _
  unfold atI
  rw [Int.toNat_natCast]
  exact h.r q (List.mem_range.1 h1) (of_decide_eq_true h2)
end Go.Proofs.Ytacphhfhahgeaaa

namespace Go.Proofs.Ytacphhfhahgeaaa
open Go.RowKit
set_option linter.unusedVariables false
set_option maxRecDepth 4000

theorem NnE.atE {b : Nat} {w : World} {A : Option Addr} {n : Nat} {T : List (Sm × List Sn)} (h : NnE b w A n T) {k : Nat} (hk : k < n) : ∃ (b' off : Nat) (A' : Option Addr) (m c : Nat) (rs : List Sn), A = some ⟨b', off, none⟩ ∧ b' < w.heap.size ∧ w.cell? ⟨b', off + k, none⟩ = some (.slice A' m c) ∧ Rw w A' m (rs.map snC) ∧ m ≤ b ∧ ∀ s ∈ rs, Arg w s.A s.m s.c s.x ∧ s.m ≤ b := by
  obtain ⟨t, ht⟩ := look_ex h.len hk
  obtain ⟨b', off, e, hb, hc⟩ := h.1.2 k (smC t.1) (by rw [List.getElem?_map, ht]; rfl)
  obtain ⟨g1, g2, g3, g4, g5⟩ := h.2 t (List.mem_of_getElem? ht)
  exact ⟨b', off, t.1.A, t.1.m, t.1.c, t.2, e, hb, hc, g1, g4, g5⟩
theorem NnE.low {b c : Nat} {w : World} {A : Option Addr} {n : Nat} {T : List (Sm × List Sn)} (h : NnE b w A n T) (hl : Le c T) : NnE c w A n T :=
  ⟨h.1, fun t ht => by
    obtain ⟨g1, g2, g3, g4, g5⟩ := h.2 t ht
    exact ⟨g1, g2, g3, (hl t ht).1, fun s hs => ⟨(g5 s hs).1, (hl t ht).2 s hs⟩⟩⟩
theorem nodup_le7 : ∀ (n : Nat) (L : List Nat), L.Nodup → (∀ x ∈ L, x < n) → L.length ≤ n
  | 0, L, _, h => by
    cases L with
    | nil => exact Nat.le_refl _
    | cons x L => exact absurd (h x (List.mem_cons_self ..)) (by omega)
  | n + 1, L, hn, h => by
    by_cases hm : n ∈ L
    · have := nodup_le7 n (L.erase n) (hn.erase n) fun x hx => by
        have h1 := (hn.mem_erase_iff).1 hx
        have := h x h1.2
        have := h1.1
        omega
      rw [List.length_erase_of_mem hm] at this
      omega
    · have := nodup_le7 n L hn fun x hx => by
        have h1 := h x hx
        have : x ≠ n := fun e => hm (e ▸ hx)
        omega
      omega
theorem is_apart {w : World} {A : Option Addr} {n p : Nat} {L : List Int} {t : TypeId} {cs : List Value} (h : Is w A n L) (ho : Own w p t cs) (hc : ∀ v ∈ cs, ∀ x, v ≠ .int .i64 x) : L = [] ∨ ∃ b off, A = some ⟨b, off, none⟩ ∧ b ≠ p := by
  cases L with
  | nil => exact .inl rfl
  | cons x L =>
    obtain ⟨b, off, e, hb, hx⟩ := h.2 0 x rfl
    refine .inr ⟨b, off, e, fun e2 => ?_⟩
    subst e2
    rw [ho.cell] at hx
    exact hc _ (List.mem_of_getElem? hx) x rfl
theorem is_apart2 {w : World} {A : Option Addr} {n p g : Nat} {L : List Int} {t t' : TypeId} {cs cs' : List Value} (h : Is w A n L) (ho : Own w p t cs) (hc : ∀ v ∈ cs, ∀ x, v ≠ .int .i64 x) (ho' : Own w g t' cs') (hc' : ∀ v ∈ cs', ∀ x, v ≠ .int .i64 x) : L = [] ∨ ∃ b off, A = some ⟨b, off, none⟩ ∧ b ≠ p ∧ b ≠ g := by
  rcases is_apart h ho hc with e | ⟨b, off, e, h1⟩
  · exact .inl e
  rcases is_apart h ho' hc' with e' | ⟨b', off', e', h2⟩
  · exact .inl e'
  · rw [e] at e'
    cases e'
    exact .inr ⟨b, off, e, h1, h2⟩
theorem is_kept {ok : Nat → Prop} {w w' : World} {A : Option Addr} {n : Nat} {L : List Int} (h : Is w A n L) (ha : L = [] ∨ ∃ b off, A = some ⟨b, off, none⟩ ∧ ok b) (hk : Kp ok w w') : Is w' A n L := by
  rcases ha with rfl | ⟨b, off, e, h1⟩
  · refine ⟨h.1, fun k x hx => by simp at hx⟩
  · exact h.keep (ok := ok) (fun b' off' e' => by rw [e] at e'; cases e'; exact h1) hk
theorem hh_lt {w : World} {A : Option Addr} {n : Nat} {vs : List Value} (h : Rw w A n vs) {i : Nat} (hi : i < n) {b off : Nat} (e : A = some ⟨b, off, none⟩) : b < w.heap.size := by
  obtain ⟨u, hu⟩ := look_ex h.1 hi
  obtain ⟨b', off', e', h1, _⟩ := h.2 i u hu
  rw [e] at e'
  cases e'
  exact h1
theorem nu_of {w : World} {A : Option Addr} {n : Nat} {rs : List Sn} {xs : List Nat} (h : Rw w A n (rs.map snC)) (hx : rs.map Sn.x = xs) (ha : ∀ r ∈ rs, Arg w r.A r.m r.c r.x ∧ r.m ≤ 1000) : Nu w A n xs := ⟨rs, h, hx, fun r hr => ⟨(ha r hr).1, by have := (ha r hr).2; omega⟩⟩
theorem nub_of {w : World} {A : Option Addr} {n : Nat} {rs : List Sn} {xs : List Nat} (h : Rw w A n (rs.map snC)) (hx : rs.map Sn.x = xs) (ha : ∀ r ∈ rs, Arg w r.A r.m r.c r.x ∧ r.m ≤ 1000) : NuB 30000 w A n xs := ⟨rs, h, hx, fun r hr => ⟨(ha r hr).1, by have := (ha r hr).2; omega⟩⟩
theorem rwT_rw {t : TypeId} {w : World} {A : Option Addr} {n : Nat} {vs : List Value} (h : RwT t w A n vs) : Rw w A n vs := h.1
theorem int_ne8 : (3 : TypeId) ≠ 5 := by decide
theorem resetAt3 {B : Nat} {s : Si} {w : World} {g : Nat} {v : List Int} (k : s.Ok B) (h : s.At w g v) :
    Calls Try.prog 20 #[.pointer (some ⟨s.p, 0, none⟩)] w fun en w' => (∃ u, en = .returned u) ∧ ∃ g', w.heap.size ≤ g' ∧ s.At w' g' (now0 s.N) ∧ w.grownBy w' (some s.p) := by
  refine (reset_as h.var (h.ns k) k.na k.hn k.f).mono ?_
  rintro en w' ⟨h1, g', h2, h3, h4, h5⟩
  refine ⟨h1, g', h2, ⟨h3, h4, ?_, Nat.le_trans h.kp.1 h2, h.kp.trans (ok' := (· ≠ s.p)) (Kp.grown h5 fun b _ e => e) (fun b _ e => e), v01_now k.f⟩, h5⟩
  unfold now0
  rw [List.length_map]
  exact k.n.1
def bitsV (N : List Nd) (st : List Int) (j : Nat) : List Int := (dffs N j).map fun q => st.getD q 0
theorem bitsV_in {N : List Nd} {st : List Int} {j : Nat} {y : Int} (h : (N.getD j nd0).k = 7) (hy : st[j]? = some y) : bitsV N st (j + 1) = bitsV N st j ++ [y] := by
  unfold bitsV
  rw [dffs_in h, List.map_append]
  congr 1
  simp only [List.map_cons, List.map_nil, List.cons.injEq, and_true]
  exact getD_of hy
theorem bitsV_out {N : List Nd} {st : List Int} {j : Nat} (h : (N.getD j nd0).k ≠ 7) : bitsV N st (j + 1) = bitsV N st j := by
  unfold bitsV
  rw [dffs_out h]
theorem bitsV_len (N : List Nd) (st : List Int) (j : Nat) : (bitsV N st j).length ≤ j := by
  unfold bitsV dffs
  rw [List.length_map]
  have := List.length_filter_le (fun q => decide ((N.getD q nd0).k = 7)) (List.range j)
  rwa [List.length_range] at this
def kindH (i nh : Nat) (y : Int) : Int := if i < nh then y % 4 else 0
theorem u8_rem {y : Int} (h : 0 ≤ y ∧ y ≤ 255) : IntKind.u8.wrap (y.tmod 4) = y % 4 := by
  have e : y.tmod 4 = y % 4 := Int.tmod_eq_emod_of_nonneg h.1
  rw [e, IntKind.wrap_u8]
  omega
theorem ints_len7 {w : World} {A : Option Addr} {n : Nat} {xs : List Nat} {t : TypeId} (h : NuT t w A n xs) : n = xs.length := h.len.symm
set_option maxRecDepth 20000 in
set_option maxHeartbeats 16000000 in
theorem simSteps_as {An Ai Ao : Option Addr} {nn cn ni ci no co : Nat} {N : List Nd} {I O : List Pt} {w : World} (h : NetIn w An nn cn Ai ni ci Ao no co N I O) {As : Option Addr} {ns cs : Nat} {T : List (Sm × List Sn)} (hs : NnE 1048576 w As ns T) (hns : ns ≤ 1048576) {Ah : Option Addr} {nh ch : Nat} {bs : List Int} (hh : Rw w Ah nh (by8 bs)) (hbs : ∀ y ∈ bs, 0 ≤ y ∧ y ≤ 255) (hnh : nh ≤ 140737488351232) :
    Calls Try.prog 3 #[.agg #[.slice An nn cn, .slice Ai ni ci, .slice Ao no co], .slice As ns cs, .slice Ah nh ch] w fun en w' => en = .returned (.bool true) ∧ Below w.heap.size w w' := by
  have HBY := Lib.hid hbs
  clear hbs
  go_enter Try.func3, Try.ntmps3
  go_upto_region 1 with fail
  obtain ⟨w1, e_w1⟩ : ∃ w', w.alloc (.cells #[.slice An nn cn, .slice Ai ni ci, .slice Ao no co] 25) = w' := ⟨_, rfl⟩
  have z0 : Bx w1 w.heap.size [.slice An nn cn, .slice Ai ni ci, .slice Ao no co] := e_w1 ▸ Bx.made_k w rfl #[.slice An nn cn, .slice Ai ni ci, .slice Ao no co] 25
  have BW : Below w.heap.size w w1 := e_w1 ▸ below_lit _ _
  rw [e_w1]
  clear e_w1
  replace h := h.on BW
  replace hs := hs.on BW
  replace hh := hh.on BW
  go_wp2_with fail
  refine (awake7_any _).mono ?_
  rintro en w2 ⟨rfl, b⟩
  replace h := h.on b
  replace hs := hs.on b
  replace hh := hh.on b
  replace z0 := z0.on b
  replace BW := Below.step BW b
  clear b
  have z0c0 := z0.2 0 _ rfl
  have z0c1 := z0.2 1 _ rfl
  have z0c2 := z0.2 2 _ rfl
  go_wp2_with fail
  refine (largeE_as h hs hns).mono ?_
  rintro en w3 ⟨v, rfl, hv, b⟩
  replace h := h.on b
  replace hs := hs.on b
  replace hh := hh.on b
  replace z0 := z0.on b
  replace BW := Below.step BW b
  clear b z0c0 z0c1 z0c2
  cases v
  case true =>
    go_wp2_with fail
    go_ret
    exact ⟨rfl, BW⟩
  obtain ⟨hlg, hns20, hle⟩ := hv rfl
  obtain ⟨hn, hn60, hi66, ho66, hbb⟩ := h.nt hlg
  have HBB : Hid (∀ p ∈ I ++ O, p.bits.length ≤ 100000) := Lib.hid fun p hp => by have := (hbb p hp).1; omega
  have HNM : Hid (∀ p ∈ I ++ O, p.name.size ≤ 1000000) := Lib.hid fun p hp => by have := (hbb p hp).2; omega
  have HCC : Hid (∀ k : Nat, (comesS (I.take k)).length ≤ 1000000) := Lib.hid fun k => by have := comes_len7 (m := 66) (n := 4000) (by rw [hn.i.1]; exact hi66) (fun p hp => (hbb p (List.mem_append_left _ hp)).1) k; omega
  have HOL : Hid (O.length ≤ 66) := Lib.hid (by rw [hn.o.1]; exact ho66)
  have sn := h.sn
  have hs1 : NnE 1000 w3 As ns T := hs.low hle
  have hnn : nn ≤ 1000 := hn.hn
  have hni : ni ≤ 1000 := by omega
  have hno : no ≤ 1000 := by omega
  have HNL : Hid (N.length = nn) := Lib.hid hn.n.1
  clear h hlg hbb hv hns hs hle
  obtain ⟨d, e', hlv⟩ : ∃ d e', levelS N I O = (d, e') := ⟨_, _, rfl⟩
  have z0c0 := z0.2 0 _ rfl
  have z0c1 := z0.2 1 _ rfl
  have z0c2 := z0.2 2 _ rfl
  cases d with
  | none =>
    have he' := no_of hlv
    have he0 : (e' != 0) = true := by simpa using he'
    have he1 : (e' != e') = false := by simp
    have HLE := Lib.hid hlv
    clear hlv
    go_wp2_with fail
    refine (new_no hn HLE.out he0).mono ?_
    rintro en w4 ⟨rfl, b⟩
    replace hn := hn.on b
    replace z0 := z0.on b
    replace BW := Below.step BW b
    clear b z0c0 z0c1 z0c2
    have z0c0 := z0.2 0 _ rfl
    have z0c1 := z0.2 1 _ rfl
    have z0c2 := z0.2 2 _ rfl
    go_wp2_with fail
    refine (rorder_as hn HNM.out HCC.out HLE.out (by simp)).mono ?_
    rintro en w5 ⟨A5, m5, c5, rfl, hi5, _, b5⟩
    go_wp2_with fail
    go_ret
    exact ⟨rfl, Below.step BW b5⟩
  | some dd =>
    obtain ⟨rfl, o2, o3, o4, o5, o6, o7⟩ := od_of hlv
    have HLE := Lib.hid hlv
    have HLD : Hid (((some dd : Option (List Nat)).getD []).length ≤ 1000) := Lib.hid (by
      show dd.length ≤ 1000
      have := hn.n.1
      omega)
    obtain ⟨L, hL⟩ : ∃ L, ordU (fun i => dd.getD i 0) dd.length dd.length = L := ⟨_, rfl⟩
    rw [hL] at o6 o7
    have HOD := Lib.hid o6
    have HLO := Lib.hid hL
    have HLL : Hid (L.length ≤ nn) := Lib.hid (by
      have h1 := nodup_le7 N.length L o6.nd fun x hx => (o6.mem x).1 hx
      rw [hn.n.1] at h1
      exact h1)
    have HOE := Lib.hid o7
    have HFF : Hid (N.all (formedS N.length) = true) := Lib.hid o3
    have HFD := Lib.hid o5
    have HPL : Hid (∀ p ∈ I ++ O, ∀ q ∈ p.bits, 0 ≤ q ∧ q.toNat < N.length) := Lib.hid fun p hp q hq => by
      have h1 := o4 p hp
      unfold bitsS at h1
      simp only [Bool.and_eq_true] at h1
      have h2 := List.all_eq_true.1 h1.2 q hq
      unfold placeS at h2
      simp only [Bool.and_eq_true, decide_eq_true_eq] at h2
      omega
    have HPI : Hid (∀ p ∈ I, ∀ q ∈ p.bits, 0 ≤ q ∧ q.toNat < N.length) := Lib.hid fun p hp => HPL.out p (List.mem_append_left _ hp)
    have HBI : Hid (∀ p ∈ I, p.bits.length ≤ 100000) := Lib.hid fun p hp => HBB.out p (List.mem_append_left _ hp)
    have HBO : Hid (∀ p ∈ O, p.bits.length ≤ 100000) := Lib.hid fun p hp => HBB.out p (List.mem_append_right _ hp)
    have HQI : Hid (∀ p ∈ I, ∀ q ∈ p.bits, ∃ r : Nat, q = (r : Int) ∧ r < nn) := Lib.hid fun p hp q hq => by
      have := HPL.out p (List.mem_append_left _ hp) q hq
      have := HNL.out
      exact ⟨q.toNat, by omega, by omega⟩
    have HQO : Hid (∀ p ∈ O, ∀ q ∈ p.bits, ∃ r : Nat, q = (r : Int) ∧ r < nn) := Lib.hid fun p hp q hq => by
      have := HPL.out p (List.mem_append_right _ hp) q hq
      have := HNL.out
      exact ⟨q.toNat, by omega, by omega⟩
    have HFN : Hid (N.all (formedS nn) = true) := Lib.hid (by rw [← HNL.out]; exact o3)
    have HLQ : Hid (∀ q ∈ nI L, ∃ r : Nat, q = (r : Int) ∧ r < nn) := Lib.hid fun q hq => by
      unfold nI at hq
      obtain ⟨r, hr, rfl⟩ := List.mem_map.1 hq
      exact ⟨r, rfl, by rw [← HNL.out]; exact (o6.mem r).1 hr⟩
    have HTN : Hid (∀ q ∈ nI L, q.toNat < N.length) := Lib.hid fun q hq => by
      obtain ⟨r, rfl, hr⟩ := HLQ.out q hq
      rw [HNL.out]
      omega
    have HRR : Hid (regsS N L = dffs N N.length) := Lib.hid (by rw [← hL]; rw [o2]; exact regs_rise o6.all rfl)
    clear hlv o2 o3 o4 o5 o6 o7 hL
    go_wp2_with fail
    refine (new_as hn sn HBB.out HLE.out).mono ?_
    rintro en w4 ⟨s, g0, rfl, k, hA, e1, e2, e3, e4, e5, e6, b⟩
    rw [HLO.out] at e5 e6
    have hp3 : w3.heap.size ≤ s.p := k.low
    have hg3 : w3.heap.size ≤ g0 := by have := k.hp; have := hA.low; omega
    have hA0 := hA
    have HK := Lib.hid k
    have HE2 := Lib.hid e2
    have HE3 := Lib.hid e3
    have HE4 := Lib.hid e4
    have HE5 := Lib.hid e5
    have HE6 := Lib.hid e6
    have hn4 := hn.on b
    have Z3 := Lib.hid z0
    replace z0 := z0.on b
    have B3 : Below w3.heap.size w3 w4 := b
    clear b k e1 e2 e3 e4 e5 e6 z0c0 z0c1 z0c2 hA0
    have z0c0 := z0.2 0 _ rfl
    have z0c1 := z0.2 1 _ rfl
    have z0c2 := z0.2 2 _ rfl
    go_wp2_with fail
    refine (rorder_as hn4 HNM.out HCC.out HLE.out HLD.out).mono ?_
    rintro en w5 ⟨A5, m5, c5, rfl, hi5, _, b⟩
    rw [HOE.out] at hi5
    have hm5 : m5 ≤ 1000 := by
      rw [← hi5.1]
      unfold nI
      rw [List.length_map]
      have := HLL.out
      omega
    replace z0 := z0.on b
    replace hA := hA.on b
    have hn5 := hn4.on b
    replace B3 := Below.step B3 b
    clear b z0c0 z0c1 z0c2 hn4
    have z0c0 := z0.2 0 _ rfl
    have z0c1 := z0.2 1 _ rfl
    have z0c2 := z0.2 2 _ rfl
    go_wp2_with fail
    refine (rstart_as hn5.n hnn).mono ?_
    rintro en w6 ⟨gs0, rfl, ho6, hgs, b⟩
    have hA6 := hA.on b
    have B6 := Below.step B3 b
    have HAP : Hid (nI L = [] ∨ ∃ b off, A5 = some ⟨b, off, none⟩ ∧ b ≠ s.p ∧ b ≠ g0) := Lib.hid (is_apart2 hi5 hA.var (by simp) hA.now (by unfold by8; intro v hv x e; obtain ⟨y, _, rfl⟩ := List.mem_map.1 hv; cases e))
    have HKP : Hid (Kp (fun b => b ≠ s.p ∧ b ≠ g0) w5 w6) := Lib.hid (Kp.below b fun b hb _ => hb)
    have HI5 := Lib.hid hi5
    have HKP5 : w3.heap.size ≤ w5.heap.size := B3.size
    have HS5 : Hid (g0 < w5.heap.size) := Lib.hid hA.now.lt
    clear b hA B3 hn5 z0 z0c0 z0c1 z0c2 hi5
    go_wp2_with fail
    go_loopw [11, 54] (fun sv iv wr => ∃ (i gs g : Nat) (now st : List Int), i ≤ ns ∧ iv = .int .i64 i ∧ sv = .slice (some ⟨gs, 0, none⟩) nn nn ∧ Hid (Own wr gs 3 (ivs st)) ∧ Hid (s.At wr g now) ∧ Hid (Inv N now st) ∧ Hid (v01 st) ∧ Hid (st.length = nn) ∧ Hid (g = g0 ∨ w5.heap.size ≤ g) ∧ Hid (Kp (fun b => b ≠ s.p ∧ b ≠ g0) w5 wr) ∧ Hid (Below w3.heap.size w3 wr)) (fun _ iv _ => ns - (intOf iv).toNat)
    case atStart => exact ⟨0, gs0, g0, now0 N, startR N, Nat.zero_le _, rfl, rfl, Lib.hid ho6, Lib.hid hA6, Lib.hid (inv_start N), Lib.hid (start_01 HFF.out), Lib.hid (by unfold startR; rw [List.length_map]; exact HNL.out), Lib.hid (.inl rfl), HKP, Lib.hid B6⟩
    case round =>
      clear ho6 hA6 HKP B6 hgs
      obtain ⟨i, gs, g, now, st, hi, rfl, rfl, HO, HA, HIV, HV1, HSL, HG, HKP, HB⟩ := hrel
      by_cases hlt : i < ns
      · obtain ⟨b1, o1, A1, m1, d1, rs, rfl, hb1, q1, hrw, hm1, hrs⟩ := hs1.atE hlt
        have i0 : (0 : Int) ≤ (i : Int) := by omega
        have i1 : (i : Int) < (ns : Int) := by omega
        obtain ⟨wo, rfl⟩ : ∃ x, x = wr := ⟨_, rfl⟩
        go_upto_region 15 with fail
        go_cut [13] from 55 to 152 (fun a wx => a = .int .u8 0 ∧ wo = wx)
        case first =>
          go_wp2_with fail
          go_meet
          exact ⟨rfl, rfl⟩
        obtain ⟨rfl, rfl⟩ := hcut
        apply_assumption
        go_step
        go_cut [13] from 55 to 152 (fun a wx => ∃ kd : Int, 0 ≤ kd ∧ kd < 4 ∧ a = .int .u8 kd ∧ wo = wx)
        case first =>
          by_cases hih : i < nh
          · obtain ⟨bh, oh, y, rfl, HY, qh⟩ := hh.b8 hih
            have hy := HBY.out y (List.mem_of_getElem? HY.out)
            have j1 : (i : Int) < (nh : Int) := by omega
            have e8 := u8_rem hy
            have hq := (HB.out.cell (p := ⟨bh, oh + i, none⟩) (hh_lt hh hih rfl)).trans qh
            go_wp2_with fail
            go_meet
            exact ⟨y % 4, by omega, by omega, rfl, rfl⟩
          · have j1 : ¬ (i : Int) < (nh : Int) := by omega
            go_wp2_with fail
            go_meet
            exact ⟨0, by omega, by omega, rfl, rfl⟩
        case rest =>
          obtain ⟨kd, hk0, hk4, rfl, rfl⟩ := hcut
          apply_assumption
          go_step
          go_cut [11] from 55 to 152 (fun sv wx => ∃ (gs g : Nat) (now st : List Int), sv = .slice (some ⟨gs, 0, none⟩) nn nn ∧ Hid (Own wx gs 3 (ivs st)) ∧ Hid (s.At wx g now) ∧ Hid (Inv N now st) ∧ Hid (v01 st) ∧ Hid (st.length = nn) ∧ Hid (g = g0 ∨ w5.heap.size ≤ g) ∧ Hid (Kp (fun b => b ≠ s.p ∧ b ≠ g0) w5 wx) ∧ Hid (Below w3.heap.size w3 wx))
          case first =>
            by_cases h1 : kd = 1
            · have e1 : (kd == 1) = true := by simp [h1]
              have H1 := Lib.hid h1
              clear h1
              go_wp2_with fail
              refine (resetAt3 HK.out HA.out).mono ?_
              rintro en w7 ⟨⟨u, rfl⟩, g2, hg2, hA2, G⟩
              rw [HE2.out] at hA2
              have B7 : Below w3.heap.size w3 w7 := HB.out.grown G HB.out.size fun k hk => by injection hk with hk; omega
              have K7 : Kp (fun b => b ≠ s.p ∧ b ≠ g0) w5 w7 := HKP.out.trans (ok' := fun b => b ≠ s.p ∧ b ≠ g0) (Kp.grown G fun b _ e => e.1) fun b _ e => e
              have hg5 : w5.heap.size ≤ g2 := Nat.le_trans HKP.out.1 hg2
              have z7c0 := (Z3.out.on B7).2 0 _ rfl
              have z7c1 := (Z3.out.on B7).2 1 _ rfl
              have z7c2 := (Z3.out.on B7).2 2 _ rfl
              go_wp2_with fail
              refine (rstart_as (hn.n.on B7) hnn).mono ?_
              rintro en w8 ⟨gs2, rfl, ho8, hgs2, b⟩
              go_wp2_with fail
              go_meet
              exact ⟨gs2, g2, now0 N, startR N, rfl, Lib.hid ho8, Lib.hid (hA2.on b), Lib.hid (inv_start N), Lib.hid (start_01 HFF.out), Lib.hid (by unfold startR; rw [List.length_map]; exact HNL.out), Lib.hid (.inr hg5), Lib.hid (K7.trans (ok' := fun b => b ≠ s.p ∧ b ≠ g0) (Kp.below b fun b hb _ => hb) fun b _ e => e), Lib.hid (Below.step B7 b)⟩
            · have e1 : (kd == 1) = false := by simp [h1]
              go_wp2_with fail
              go_meet
              exact ⟨gs, g, now, st, rfl, HO, HA, HIV, HV1, HSL, HG, HKP, HB⟩
          case rest =>
            clear HO HA HIV HV1 HSL HG HKP HB
            obtain ⟨gs', g', now', st', rfl, HO, HA, HIV, HV1, HSL, HG, HKP, HB⟩ := hcut
            obtain ⟨w7, rfl⟩ : ∃ x, x = wc := ⟨_, rfl⟩
            obtain ⟨xs, hxs⟩ : ∃ xs, rs.map Sn.x = xs := ⟨_, rfl⟩
            obtain ⟨f, hfe⟩ : ∃ f, fitsS I xs = f := ⟨_, rfl⟩
            have HFE := Lib.hid hfe
            have HXS := Lib.hid hxs
            have HRS := Lib.hid hrs
            have HRW := Lib.hid hrw
            have HSG : ∀ W, Below w3.heap.size w3 W → W.cell? ⟨w.heap.size, 0, none⟩ = some (.slice An nn cn) ∧ W.cell? ⟨w.heap.size, 1, none⟩ = some (.slice Ai ni ci) ∧ W.cell? ⟨w.heap.size, 2, none⟩ = some (.slice Ao no co) ∧ W.cell? ⟨b1, o1 + i, none⟩ = some (.slice A1 m1 d1) := fun W hW =>
              ⟨(Z3.out.on hW).2 0 _ rfl, (Z3.out.on hW).2 1 _ rfl, (Z3.out.on hW).2 2 _ rfl, (hW.cell (p := ⟨b1, o1 + i, none⟩) hb1).trans q1⟩
            clear hfe hxs hrs hrw q1
            go_upto_region 21 with fail
            have bd : Below w7.heap.size w7 w7.drew := (Below.refl _ _).drew
            have BX := Lib.hid bd
            have B3 := Lib.hid (Below.step HB.out bd)
            clear bd
            go_region_held3 (fun w' => w'.cell? ⟨w.heap.size, 0, none⟩ = some (.slice An nn cn) ∧ w'.cell? ⟨w.heap.size, 1, none⟩ = some (.slice Ai ni ci) ∧ w'.cell? ⟨w.heap.size, 2, none⟩ = some (.slice Ao no co) ∧ w'.cell? ⟨b1, o1 + i, none⟩ = some (.slice A1 m1 d1))
              ((with_reducible exact HSG _ B3.out))
              (first
                | (go_at_call 22
                   (with_reducible refine (parts_raw (HRW.out.on B3.out) (by omega)).mono ?_)
                   rintro en w8 ⟨A8, c8, rfl, hp8, sw8, b⟩
                   replace BX := Lib.hid (Below.step BX.out b)
                   replace B3 := Lib.hid (Below.step B3.out b)
                   clear b)
                | (go_at_call 21
                   (with_reducible refine (rinputs_as (hn.n.on B3.out) (hn.i.on B3.out) hnn hni HBI.out HQI.out (nub_of (rwT_rw hp8) HXS.out (fun r hr => ⟨(HRS.out r hr).1.on B3.out, (HRS.out r hr).2⟩)) f HFE.out).mono ?_)
                   rintro en w9 ⟨g5, rfl, hi5, hg5, b⟩
                   replace BX := Lib.hid (Below.step BX.out b)
                   replace B3 := Lib.hid (Below.step B3.out b)
                   clear b))
            have HO9 := Lib.hid (HO.out.below BX.out HO.out.lt)
            have HA9 := Lib.hid (HA.out.on BX.out)
            have HK9 : Hid (Kp (fun b => b ≠ s.p ∧ b ≠ g0) w5 w9) := Lib.hid (HKP.out.trans (ok' := fun b => b ≠ s.p ∧ b ≠ g0) (Kp.below BX.out fun b hb _ => hb) fun b _ e => e)
            have HNX : Hid (Nu w9 A1 m1 xs) := Lib.hid (nu_of (HRW.out.on B3.out) HXS.out (fun r hr => ⟨(HRS.out r hr).1.on B3.out, (HRS.out r hr).2⟩))
            have z9c0 := (HSG _ B3.out).1
            have z9c1 := (HSG _ B3.out).2.1
            have z9c2 := (HSG _ B3.out).2.2.1
            have q9 := (HSG _ B3.out).2.2.2
            clear hp8 HO HA HKP HB BX
            cases f
            case false =>
              have hfit : fitsS s.I xs = false := by rw [HE3.out]; exact HFE.out
              clear hi5
              by_cases h2 : kd = 2
              · have e2 : (kd == 2) = true := by simp [h2]
                have H2 := Lib.hid h2
                clear h2
                go_wp2_with fail
                refine (peek_no HK.out HA9.out HNX.out (by omega) hfit).mono ?_
                rintro en w10 ⟨rfl, b⟩
                go_wp2_with fail
                go_roundw
                case rel => exact ⟨i + 1, gs', g', now', st', by omega, by go_num, rfl, Lib.hid (HO9.out.below b HO9.out.lt), Lib.hid (HA9.out.on b), HIV, HV1, HSL, HG, Lib.hid (HK9.out.trans (ok' := fun b => b ≠ s.p ∧ b ≠ g0) (Kp.below b fun b hb _ => hb) fun b _ e => e), Lib.hid (Below.step B3.out b)⟩
                case measure => simp [intOf]; omega
              · have e2 : (kd == 2) = false := by simp [h2]
                go_wp2_with fail
                refine (step_no HK.out HA9.out HNX.out (by omega) hfit).mono ?_
                rintro en w10 ⟨rfl, b⟩
                go_wp2_with fail
                go_roundw
                case rel => exact ⟨i + 1, gs', g', now', st', by omega, by go_num, rfl, Lib.hid (HO9.out.below b HO9.out.lt), Lib.hid (HA9.out.on b), HIV, HV1, HSL, HG, Lib.hid (HK9.out.trans (ok' := fun b => b ≠ s.p ∧ b ≠ g0) (Kp.below b fun b hb _ => hb) fun b _ e => e), Lib.hid (Below.step B3.out b)⟩
                case measure => simp [intOf]; omega
            case true =>
              have hfit : fitsS s.I xs = true := by rw [HE3.out]; exact HFE.out
              have HO5 : Hid (Own w9 g5 3 (ivs (insR I xs (List.replicate nn 0) I.length))) := Lib.hid (hi5 rfl)
              clear hi5
              obtain ⟨u, hu⟩ : ∃ u, rval N I (nI L) st' xs = u := ⟨_, rfl⟩
              have HU := Lib.hid hu
              have HVE : Hid (valsS s.N s.I s.G now' xs = u) := Lib.hid (by
                rw [HE2.out, HE3.out, HE5.out, ← hu]
                exact vals_eq HOD.out HFF.out HFD.out HPI.out HIV.out HFE.out)
              have HSO : Hid (Sol N st' (insR I xs (List.replicate N.length 0) I.length) u) := Lib.hid (by
                rw [← hu]
                exact ref_sol HOD.out HFF.out _ _)
              clear hu
              obtain ⟨F16, hF16⟩ : ∃ F : Value, (if kd = 2 then .func (.func 24) #[.pointer (some ⟨s.p, 0, none⟩)] #[] else .func (.func 23) #[.pointer (some ⟨s.p, 0, none⟩)] #[]) = F := ⟨_, rfl⟩
              have HF16 := Lib.hid hF16
              clear hF16
              go_upto_region 22 with fail
              go_cut [16] from 55 to 152 (fun a wx => a = .func (.func 23) #[.pointer (some ⟨s.p, 0, none⟩)] #[] ∧ w9 = wx)
              case first =>
                go_wp2_with fail
                go_meet
                exact ⟨rfl, rfl⟩
              obtain ⟨rfl, rfl⟩ := hcut
              apply_assumption
              go_step
              go_cut [16] from 55 to 152 (fun a wx => a = F16 ∧ w9 = wx)
              case first =>
                by_cases h2 : kd = 2
                · have e2 : (kd == 2) = true := by simp [h2]
                  have H2 := Lib.hid h2
                  clear h2
                  go_wp2_with fail
                  go_meet
                  exact ⟨by rw [← HF16.out, if_pos H2.out], rfl⟩
                · have e2 : (kd == 2) = false := by simp [h2]
                  go_wp2_with fail
                  go_meet
                  exact ⟨by rw [← HF16.out, if_neg h2], rfl⟩
              obtain ⟨rfl, rfl⟩ := hcut
              apply_assumption
              go_step
              go_cut [16, 17, 18] from 55 to 152 (fun _ ov gv wx => ∃ (A' : Option Addr) (mo c' g2 : Nat) (now2 : List Int), ov = .slice A' mo c' ∧ gv = .int .i64 0 ∧ Hid (NuT 55 wx A' mo (outS O u)) ∧ Hid (s.At wx g2 now2) ∧ Hid (if kd = 2 then Inv N now2 st' else Inv N now2 (nextR N u)) ∧ Hid (Own wx gs' 3 (ivs st')) ∧ Hid (Own wx g5 3 (ivs (insR I xs (List.replicate nn 0) I.length))) ∧ Hid (g2 = g0 ∨ w5.heap.size ≤ g2) ∧ Hid (Kp (fun b => b ≠ s.p ∧ b ≠ g0) w5 wx) ∧ Hid (Below w3.heap.size w3 wx))
              case first =>
                by_cases h2 : kd = 2
                · have hF := HF16.out
                  rw [if_pos h2] at hF
                  subst hF
                  have H2 := Lib.hid h2
                  clear h2
                  go_wp2_with fail
                  refine (peek_as HK.out HA9.out HNX.out (by omega) hfit).mono ?_
                  rintro en w10 ⟨Ap, mp, cp, rfl, np, swp, b⟩
                  rw [HVE.out, HE4.out] at np
                  go_wp2_with fail
                  go_meet
                  exact ⟨Ap, mp, cp, g', now', rfl, rfl, Lib.hid np, Lib.hid (HA9.out.on b), Lib.hid (by rw [if_pos H2.out]; exact HIV.out), Lib.hid (HO9.out.below b HO9.out.lt), Lib.hid (HO5.out.below b HO5.out.lt), HG, Lib.hid (HK9.out.trans (ok' := fun b => b ≠ s.p ∧ b ≠ g0) (Kp.below b fun b hb _ => hb) fun b _ e => e), Lib.hid (Below.step B3.out b)⟩
                · have hF := HF16.out
                  rw [if_neg h2] at hF
                  subst hF
                  go_wp2_with fail
                  refine (simStep_as HK.out HA9.out HNX.out (by omega) hfit).mono ?_
                  rintro en w10 ⟨Ap, mp, cp, rfl, np, swp, hA2, G⟩
                  rw [HVE.out, HE4.out] at np
                  rw [HVE.out, HE2.out, HE6.out] at hA2
                  have on9 := HA9.out.now
                  have hgb : w3.heap.size ≤ g' := by
                    have := HKP5
                    rcases HG.out with e | e <;> omega
                  go_wp2_with fail
                  go_meet
                  exact ⟨Ap, mp, cp, g', _, rfl, rfl, Lib.hid np, Lib.hid hA2, Lib.hid (by rw [if_neg h2]; exact inv_next HOD.out HSO.out), Lib.hid (HO9.out.tk (TK.grown G on9 int_ne8)), Lib.hid (HO5.out.tk (TK.grown G on9 int_ne8)), HG, Lib.hid (HK9.out.trans (ok' := fun b => b ≠ g') (Kp.grown G fun b _ e => e) fun b hb e => by have e1 : b ≠ g0 := e.2; rcases HG.out with e2 | e2 <;> omega), Lib.hid (B3.out.grown G B3.out.size fun k hk => by injection hk with hk; omega)⟩
              case rest =>
                clear HO9 HA9 HK9 HG HNX z9c0 z9c1 z9c2 q9 B3 HO5
                obtain ⟨Ap, mo, cp, g2, now2, rfl, rfl, HNP, HA, HIV2, HO9, HO5, HG, HKP, HB⟩ := hcut
                obtain ⟨w9, rfl⟩ : ∃ x, x = wc := ⟨_, rfl⟩
                have z9c0 := (HSG _ HB.out).1
                have z9c1 := (HSG _ HB.out).2.1
                have z9c2 := (HSG _ HB.out).2.2.1
                have hmo : mo ≤ 66 := by
                  rw [← HNP.out.len]
                  unfold outS
                  rw [List.length_map]
                  exact HOL.out
                have HUE : Hid (refR N (nI L) st' (insR I xs (List.replicate nn 0) I.length) m5 = u) := Lib.hid (by
                  rw [← HU.out, ← HI5.out.1, ← HNL.out]
                  rfl)
                have HU1 : Hid (v01 u) := Lib.hid (by rw [← HU.out]; exact rval_01 HFN.out I xs HTN.out HV1.out)
                have HUL : Hid (u.length = nn) := Lib.hid (by rw [← HU.out, rval_len]; exact HNL.out)
                go_upto_region 29 with fail
                go_cut [19] from 55 to 152 (fun a wx => ∃ g6 : Nat, a = .slice (some ⟨g6, 0, none⟩) nn nn ∧ Hid (Is wx (some ⟨g6, 0, none⟩) nn u) ∧ Hid (Below w9.heap.size w9 wx))
                case first =>
                  go_wp2_with fail
                  refine (rvalues_as (hn.n.on HB.out) hnn HFN.out (is_kept HI5.out HAP.out HKP.out) hm5 HLQ.out (HO9.out.isI HSL.out) (HO5.out.isI (by rw [insR_len, List.length_replicate])) HV1.out (insR_01 _ _ (zero_01 _) _)).mono ?_
                  rintro en w10 ⟨g6, rfl, h6, hg6, b⟩
                  rw [HUE.out] at h6
                  go_wp2_with fail
                  go_meet
                  exact ⟨g6, rfl, Lib.hid (h6.isI HUL.out), Lib.hid b⟩
                obtain ⟨g6, rfl, HU9, HB9⟩ := hcut
                obtain ⟨w10, rfl⟩ : ∃ x, x = wc := ⟨_, rfl⟩
                have HA10 := Lib.hid (HA.out.on HB9.out)
                have HO10 := Lib.hid (HO9.out.below HB9.out HO9.out.lt)
                have HK10 : Hid (Kp (fun b => b ≠ s.p ∧ b ≠ g0) w5 w10) := Lib.hid (HKP.out.trans (ok' := fun b => b ≠ s.p ∧ b ≠ g0) (Kp.below HB9.out fun b hb _ => hb) fun b _ e => e)
                have no_ := HNP.out.tk (TK.below HB9.out) (TK.below HB9.out)
                have B10 := Lib.hid (Below.step HB.out HB9.out)
                have z0 := Z3.out.on B10.out
                clear HA HO9 HO5 HKP HB HNP HB9 z9c0 z9c1 z9c2
                apply_assumption
                go_step
                go_cut [19] from 55 to 152 (fun a wx => a = .slice (some ⟨g6, 0, none⟩) nn nn ∧ Hid (Below w10.heap.size w10 wx))
                case first =>
                  have BW := Below.refl w10.heap.size w10
                  go_upto_region 30 with fail
                  try dsimp only [List.append]
                  refine region_plan [0, 1, 2, 3, 5, 6, 4, 7, 8, 9, 10] (by kernel_rfl) (by kernel_rfl) (by kernel_rfl) (by kernel_rfl) (by kernel_rfl) ?_
                  dsimp only [pick, nth]
                  replace no_ := no_.on ((Below.refl _ _).drew : Below w10.heap.size w10 w10.drew)
                  replace z0 := z0.on ((Below.refl _ _).drew : Below w10.heap.size w10 w10.drew)
                  replace BW := Below.step BW ((Below.refl _ _).drew : Below w10.heap.size w10 w10.drew)
                  obtain ⟨w1, e_w1⟩ : ∃ w', w10.drew = w' := ⟨_, rfl⟩
                  rw [e_w1] at no_ z0 BW ⊢
                  clear e_w1
                  have lf0 := fun s : Wd w1 => (z0.on s.below).2 0 _ rfl
                  have lf1 := fun s : Wd w1 => (z0.on s.below).2 1 _ rfl
                  have lf2 := fun s : Wd w1 => (z0.on s.below).2 2 _ rfl
                  refine lex_plain 6 (by kernel_rfl) ?_
                  dsimp only [List.take, List.drop]
                  repeat go_big_quiet_step (fail)
                  refine wpQuiet_nil ?_
                  clear lf0 lf1 lf2
                  refine lex_call (by kernel_rfl) (by kernel_rfl) (fun w2 b K hK => ?_)
                  replace no_ := no_.on b
                  replace z0 := z0.on b
                  replace BW := Below.step BW b
                  clear b
                  go_simp
                  refine (parts_as no_ (by omega)).mono ?_
                  rintro en w3 ⟨A31, c31, rfl, hp31, sw31, b⟩
                  dsimp only
                  refine hK _ _ b ?_
                  clear hK K
                  replace no_ := no_.on b
                  replace z0 := z0.on b
                  replace BW := Below.step BW b
                  clear b
                  refine lex_call (by kernel_rfl) (by kernel_rfl) (fun w4 b K hK => ?_)
                  replace no_ := no_.on b
                  replace z0 := z0.on b
                  replace hp31 := hp31.on b
                  replace BW := Below.step BW b
                  clear b
                  go_simp
                  refine (routs_as (hn.o.on (Below.step B10.out BW)) hno HBO.out HQO.out (HU9.out.on BW) HU1.out).mono ?_
                  rintro en w5 ⟨A32, m32, c32, rfl, hp32, sw32, b⟩
                  dsimp only
                  refine hK _ _ b ?_
                  clear hK K
                  replace no_ := no_.on b
                  replace z0 := z0.on b
                  replace hp31 := hp31.on b
                  replace BW := Below.step BW b
                  clear b
                  obtain rfl : mo = m32 := hp31.len.symm.trans hp32.len
                  refine lex_call (by kernel_rfl) (by kernel_rfl) (fun w6 b K hK => ?_)
                  replace no_ := no_.on b
                  replace z0 := z0.on b
                  replace hp31 := hp31.on b
                  replace hp32 := hp32.on b
                  replace BW := Below.step BW b
                  clear b
                  go_simp
                  refine (same7_eq hp31 hp32 (by omega)).mono ?_
                  rintro en w7 ⟨rfl, b⟩
                  dsimp only
                  refine hK _ _ b ?_
                  clear hK K
                  replace no_ := no_.on b
                  replace z0 := z0.on b
                  replace hp31 := hp31.on b
                  replace hp32 := hp32.on b
                  replace BW := Below.step BW b
                  clear b
                  have lf0 := fun s : Wd w7 => (z0.on s.below).2 0 _ rfl
                  have lf1 := fun s : Wd w7 => (z0.on s.below).2 1 _ rfl
                  have lf2 := fun s : Wd w7 => (z0.on s.below).2 2 _ rfl
                  refine lex_plain 2 (by kernel_rfl) ?_
                  dsimp only [List.take, List.drop]
                  repeat go_big_quiet_step (fail)
                  refine wpQuiet_nil ?_
                  clear lf0 lf1 lf2
                  refine lex_nil (fun w8 b => ?_)
                  replace no_ := no_.on b
                  replace z0 := z0.on b
                  replace hp31 := hp31.on b
                  replace hp32 := hp32.on b
                  replace BW := Below.step BW b
                  clear b
                  dsimp only [NoPanic]
                  go_wp2_with fail
                  go_meet
                  exact ⟨rfl, Lib.hid BW⟩
                obtain ⟨rfl, HB11⟩ := hcut
                obtain ⟨w11, rfl⟩ : ∃ x, x = wc := ⟨_, rfl⟩
                have HU11 : Hid (Is w11 (some ⟨g6, 0, none⟩) nn u) := Lib.hid (HU9.out.on HB11.out)
                have HA11 := Lib.hid (HA10.out.on HB11.out)
                have HO11 := Lib.hid (HO10.out.below HB11.out HO10.out.lt)
                have HK11 : Hid (Kp (fun b => b ≠ s.p ∧ b ≠ g0) w5 w11) := Lib.hid (HK10.out.trans (ok' := fun b => b ≠ s.p ∧ b ≠ g0) (Kp.below HB11.out fun b hb _ => hb) fun b _ e => e)
                have B11 := Lib.hid (Below.step B10.out HB11.out)
                clear HA10 HO10 HK10 B10 HB11 HU9 z0 no_
                apply_assumption
                go_step
                go_cut [11] from 55 to 152 (fun sv wx => ∃ (gs : Nat) (st : List Int), sv = .slice (some ⟨gs, 0, none⟩) nn nn ∧ Hid (Own wx gs 3 (ivs st)) ∧ Hid (Inv N now2 st) ∧ Hid (v01 st) ∧ Hid (st.length = nn) ∧ Hid (Below w11.heap.size w11 wx))
                case first =>
                  by_cases h2 : kd = 2
                  · have e2 : (kd != 2) = false := by simp [h2]
                    have h5 := HIV2.out
                    rw [if_pos h2] at h5
                    have H2 := Lib.hid h2
                    clear h2
                    go_wp2_with fail
                    go_meet
                    exact ⟨gs', st', rfl, HO11, Lib.hid h5, HV1, HSL, Lib.hid (Below.refl _ _)⟩
                  · have e2 : (kd != 2) = true := by simp [h2]
                    have h5 := HIV2.out
                    rw [if_neg h2] at h5
                    have H5 := Lib.hid h5
                    clear h5
                    have z9c0 := (HSG _ B11.out).1
                    have z9c1 := (HSG _ B11.out).2.1
                    have z9c2 := (HSG _ B11.out).2.2.1
                    go_wp2_with fail
                    refine (rnext_as (hn.n.on B11.out) hnn HU11.out HFN.out).mono ?_
                    rintro en w12 ⟨g7, rfl, h7, hg7, b⟩
                    go_wp2_with fail
                    go_meet
                    exact ⟨g7, _, rfl, Lib.hid h7, H5, Lib.hid (next_01 HU1.out), Lib.hid (by unfold nextR; rw [List.length_map]; exact HNL.out), Lib.hid b⟩
                obtain ⟨gs2, st2, rfl, HO, HIV3, HV2, HSL2, HB12⟩ := hcut
                obtain ⟨w12, rfl⟩ : ∃ x, x = wc := ⟨_, rfl⟩
                have HA12 := Lib.hid (HA11.out.on HB12.out)
                have HK12 : Hid (Kp (fun b => b ≠ s.p ∧ b ≠ g0) w5 w12) := Lib.hid (HK11.out.trans (ok' := fun b => b ≠ s.p ∧ b ≠ g0) (Kp.below HB12.out fun b hb _ => hb) fun b _ e => e)
                have B12 := Lib.hid (Below.step B11.out HB12.out)
                clear HA11 HO11 HK11 B11 HB12 HU11
                have z9c0 := (HSG _ B12.out).1
                go_upto_region 35 with fail
                obtain ⟨w13, e_w13⟩ : ∃ w', w12.alloc (.cells #[] 3) = w' := ⟨_, rfl⟩
                have b13 : Below w12.heap.size w12 w13 := e_w13 ▸ below_lit _ _
                have hg13 : Grow w13 w12.heap.size 3 (.slice (some ⟨w12.heap.size, 0, none⟩) 0 0) (ivs (bitsV N st2 0)) := e_w13 ▸ Grow.made w12 _ (Nat.le_refl _)
                rw [e_w13]
                clear e_w13
                have z13 := (HSG _ (Below.step B12.out b13)).1
                have HEQ : Hid (stV s.R now2 = bitsV N st2 nn) := Lib.hid (by
                  rw [HE6.out, HRR.out, ← HNL.out]
                  exact state_eq HIV3.out)
                go_wp2_with fail
                obtain ⟨wl, rfl⟩ : ∃ x, x = w13 := ⟨_, rfl⟩
                clear z13 z9c0
                go_loopw [20, 131] (fun bv jv wr => ∃ j : Nat, j ≤ nn ∧ jv = .int .i64 j ∧ Hid (Grow wr w12.heap.size 3 bv (ivs (bitsV N st2 j))) ∧ Hid (Below w12.heap.size w12 wr)) (fun _ jv _ => nn - (intOf jv).toNat)
                case atStart => exact ⟨0, Nat.zero_le _, rfl, Lib.hid hg13, Lib.hid b13⟩
                case round =>
                  clear hg13 b13
                  obtain ⟨j, hj, rfl, HGR, BL⟩ := hrel
                  by_cases hlj : j < nn
                  · obtain ⟨b0, off, x1, x2, x3, x4, eA, HX, n0, n1, n2, n3⟩ := (hn.n.on (Below.step B12.out BL.out)).at hlj
                    subst eA
                    have k0 : (0 : Int) ≤ (j : Int) := by omega
                    have k1 : (j : Int) < (nn : Int) := by omega
                    go_upto_region 38 with fail
                    obtain ⟨w14, e_w14⟩ : ∃ w', wr.alloc (.cells #[.int .i64 x1, .int .i64 x2, .int .i64 x3, .int .i64 x4] 50) = w' := ⟨_, rfl⟩
                    have z14 : Bx w14 wr.heap.size [.int .i64 x1, .int .i64 x2, .int .i64 x3, .int .i64 x4] := e_w14 ▸ Bx.made_k wr rfl #[.int .i64 x1, .int .i64 x2, .int .i64 x3, .int .i64 x4] 50
                    have b14 : Below wr.heap.size wr w14 := e_w14 ▸ below_lit _ _
                    rw [e_w14]
                    clear e_w14 n0 n1 n2 n3
                    have BL14 := Below.step BL.out b14
                    have hg14 : Grow w14 w12.heap.size 3 _ (ivs (bitsV N st2 j)) := row_on HGR.out b14
                    have z14c0 := z14.2 0 _ rfl
                    have hsz := BL14.size
                    by_cases h7 : x1 = 7
                    · subst h7
                      obtain ⟨y, hy⟩ := look_ex HSL2.out hlj
                      have cst := ((HO.out.below BL14 HO.out.lt).cell j).trans (ivs_at hy)
                      have HBV : Hid (bitsV N st2 (j + 1) = bitsV N st2 j ++ [y]) := Lib.hid (bitsV_in (by rw [getD_of HX.out]) hy)
                      have hll : (ivs (bitsV N st2 j)).length ≤ 3000000 := by rw [ivs_len7]; have := bitsV_len N st2 j; omega
                      clear hy
                      go_wp2_with (at_builtin; refine wpList_push _ rfl _ _ 34 rfl w12.heap.size 3 (.int .i64 0) 8 Try.underlying34 i64_info7 rfl (by omega) _ _ rfl hg14 _ rfl rfl hll hsz ?_; intro v' w1 hg1 hb1)
                      go_roundw
                      case rel =>
                        rw [ivs_snoc, ← HBV.out] at hg1
                        exact ⟨j + 1, by omega, by go_num, Lib.hid hg1, Lib.hid (BL14.trans hb1)⟩
                      case measure => simp [intOf]; omega
                    · have e7 : (x1 == 7) = false := by simpa using h7
                      have HBV : Hid (bitsV N st2 (j + 1) = bitsV N st2 j) := Lib.hid (bitsV_out (by rw [getD_of HX.out]; exact h7))
                      clear h7
                      go_wp2_with fail
                      go_roundw
                      case rel => exact ⟨j + 1, by omega, by go_num, Lib.hid (by rw [HBV.out]; exact hg14), Lib.hid BL14⟩
                      case measure => simp [intOf]; omega
                  · obtain rfl : j = nn := by omega
                    obtain ⟨A', c', rfl, sw, hl, hr⟩ := Grow.at HGR.out rfl
                    have hm : (ivs (bitsV N st2 j)).length ≤ 1000 := by rw [ivs_len7]; have := bitsV_len N st2 j; omega
                    have HAx := Lib.hid (HA12.out.on BL.out)
                    go_wp2_with fail
                    refine (state_as HK.out HAx.out).mono ?_
                    rintro en w15 ⟨A15, m15, c15, rfl, hi15, sw15, _, b15⟩
                    have hm15 : m15 ≤ 1000000 := by
                      rw [← hi15.1, HEQ.out, ← ivs_len7]
                      omega
                    have hvv : (stV s.R now2 == bitsV N st2 j) = true := by rw [HEQ.out]; simp
                    go_wp2_with fail
                    refine (rints_as hi15 (hr.is.on b15) hm15 true hvv).mono ?_
                    rintro en w16 ⟨rfl, b16⟩
                    have BZ := Below.step (Below.step BL.out b15) b16
                    go_wp2_with fail
                    go_roundw
                    case rel => exact ⟨i + 1, gs2, g2, now2, st2, by omega, by go_num, rfl, Lib.hid (HO.out.below BZ HO.out.lt), Lib.hid (HA12.out.on BZ), HIV3, HV2, HSL2, HG, Lib.hid (HK12.out.trans (ok' := fun b => b ≠ s.p ∧ b ≠ g0) (Kp.below BZ fun b hb _ => hb) fun b _ e => e), Lib.hid (Below.step B12.out BZ)⟩
                    case measure => simp [intOf]; omega
      · obtain rfl : i = ns := by omega
        go_wp2_with fail
        go_ret
        exact ⟨rfl, Below.step BW HB.out⟩
end Go.Proofs.Ytacphhfhahgeaaa

namespace Go.Proofs.Ytacphhfhahgeaaa
open Go.RowKit Go.ChangeShapes Go.WideShapes
set_option linter.unusedVariables false
set_option maxRecDepth 4000

theorem cells_u8 : Try.prog.cellsOf 5 = 1 := by kernel_rfl
theorem bytes_u8 : Try.prog.bytesOf 5 = 1 := by kernel_rfl
section
variable {H : Type} {enc : TypeId × Value → H} {w : World}
theorem open_bytes6 {v : Value} {d : DataW H} {p : List MemPlace} {b0 : Nat} (hv : Value.okWide Try.prog w .any b0 27 v) (h0 : DataW.Trod enc Try.prog w 0 (fun _ => true) true 27 v d p) (hz : ∀ n ∈ d.weights Try.prog 27, n ≤ RB) :
    ∃ A n c L, v = .slice A n c ∧ Rw w A n (by8 L) ∧ (∀ y ∈ L, 0 ≤ y ∧ y ≤ 255) ∧ n ≤ RB := by
  obtain ⟨ao, lo, co, rfl⟩ := okWide_slice Try.underlying27 hv
  obtain ⟨fuel, h⟩ := h0
  rcases open_ints Try.underlying27 Try.underlying5 cells_u8 h with ⟨hcs, _⟩ | ⟨a, l, c, zs, hcs, _, hl, hm, hzl, hx, hcell, hwz⟩
  · simp [Value.cells] at hcs
    obtain ⟨rfl, rfl, rfl⟩ := hcs
    exact ⟨none, 0, 0, [], rfl, Rw.nil_, ⟨(by intro y hy; cases hy), (by unfold RB; omega)⟩⟩
  · simp [Value.cells] at hcs
    obtain ⟨e1, e2, e3⟩ := hcs
    subst e1 e2 e3
    simp only [if_true] at hzl
    have hc : co ≤ RB := by
      have := hz (co * Try.prog.bytesOf 5) (by
        injection hx with hx1 hx2
        rw [hx1]
        simp only [DataW.weights, Try.underlying27, List.mem_cons, List.length_map, lits, List.length_take, List.length_drop, hzl]
        exact .inl (by congr 1; omega))
      rw [bytes_u8] at this
      omega
    refine ⟨some a, lo, co, zs.take lo, rfl, ⟨by rw [by8_len, List.length_take]; omega, fun k x hxk => ?_⟩, fun y hy => ?_, by omega⟩
    · unfold by8 at hxk
      rw [List.getElem?_map, List.getElem?_take] at hxk
      split at hxk
      · rename_i hk
        have hkz : k < zs.length := by omega
        rw [List.getElem?_eq_getElem hkz] at hxk
        injection hxk with hxk
        have h1 := hcell k hkz
        rw [List.getD_eq_getElem?_getD, List.getElem?_eq_getElem hkz] at h1
        have hs := spot_of (hcell 0 (by omega))
        obtain ⟨b, o, rfl, hb, h2⟩ := one_at hs h1
        exact ⟨b, o, rfl, hb, by rw [h2, ← hxk]; rfl⟩
      · cases hxk
    · have := hwz y (List.mem_of_mem_take hy)
      simp [Lit.wf, IntKind.min, IntKind.max, IntKind.signed, IntKind.bits] at this
      omega
end
end Go.Proofs.Ytacphhfhahgeaaa

namespace Go.Proofs.Ytacphhfhahgeaaa.simStepsDone
open Go.ChangeShapes Go.WideShapes Go.ChangeAt Go.RowKit
open Go.ChangeMaps (open_string shut_string)
set_option linter.unusedVariables false
set_option maxRecDepth 4000

theorem own : ownKnob Try.prog.godebug = none := by kernel_rfl
theorem laidOut : laidOutB Try.prog = true := by kernel_rfl

set_option maxHeartbeats 1600000 in
set_option maxRecDepth 100000 in
theorem lifted (os : Os) (started : os.Started) (H : Type) (enc : TypeId × Value → H) (F : Stop.Interp) :
    ReturnsInHanded {} Try.checked os 3 .any ((Rows.OpenSpec.upto Rows.simStepsSpec).pre6 enc Try.prog Try.f3 Rows.simStepsUptoRow.domain false) (((Rows.OpenSpec.upto Rows.simStepsSpec).at F).post enc Try.prog Try.f3 false true false false) := by
  refine returnsInHanded_of_cond_sized (C := Try.checked) (s := Rows.OpenSpec.upto Rows.simStepsSpec) (k := Rows.uptoSmall) rfl own started (by kernel_rfl) Try.func3
    (OpenSpec.witness (enc := enc) (C := Try.checked) (s := Rows.OpenSpec.upto Rows.simStepsSpec) (k := Rows.uptoSmall) rfl false ⟨#[], #[.agg #[.slice none 0 0, .slice none 0 0, .slice none 0 0], .slice none 0 0, .slice none 0 0], []⟩ 8 (by kernel_rfl) (by kernel_rfl) (by kernel_rfl)
      (x := ([.agg [.nil, .nil, .nil], .nil, .nil], [], [])) (by kernel_rfl) rfl (by kernel_rfl)) ?_
  intro W base args ds gs before hval0 hW _ hk0 hsz0 _
  have hval : ∀ (j : Nat) t v, Try.f3.params[j]? = some t → args[j]? = some v → Value.okWide Try.prog W .any base t v := hval0
  have hsz : (DataW.weightsEach Try.prog (Try.f3.params.toList ++ Rows.simStepsSpec.plain.varTypes Try.prog) (ds ++ gs)).all (· ≤ reachBytes) = true := hsz0
  clear hsz0
  have hW' := hW
  obtain ⟨p, q, hA0, hV, rfl, hfz, hnd⟩ := hW
  have hA : DataW.TrodAll enc Try.prog W 0 (fun _ => true) true Try.f3.params.toList args.toList ds p := hA0
  rw [Try.params3] at hA hval hsz
  obtain ⟨v0, vs0, d0, ds0, p0, q0, hargs, rfl, rfl, h0, r0⟩ := trodAll_cons hA
  obtain ⟨v1, vs1, d1, ds1, p1, q1, rfl, rfl, rfl, h1, r1⟩ := trodAll_cons r0
  obtain ⟨v2, vs2, d2, ds2, p2, q2, rfl, rfl, rfl, h2, r2⟩ := trodAll_cons r1
  obtain ⟨rfl, rfl, rfl⟩ := trodAll_nil r2
  obtain rfl : args = #[v0, v1, v2] := by cases args; simp_all
  obtain ⟨rfl, rfl⟩ := trodVars_none hV
  have hbulk : Rows.uptoBulkAll [d0, d1, d2] ≤ 1048576 := by
    have h := of_decide_eq_true hk0
    simpa using h
  have k0 := h0
  have lt0 : ∀ x ∈ p0, x.block < W.heap.size := by obtain ⟨m, hm⟩ := k0; exact DataW.trod_lt m _ _ _ hm
  have k1 := h1
  have lt1 : ∀ x ∈ p1, x.block < W.heap.size := by obtain ⟨m, hm⟩ := k1; exact DataW.trod_lt m _ _ _ hm
  have k2 := h2
  have lt2 : ∀ x ∈ p2, x.block < W.heap.size := by obtain ⟨m, hm⟩ := k2; exact DataW.trod_lt m _ _ _ hm
  have hz0 : ∀ n ∈ d0.weights Try.prog 25, n ≤ RB := fun n hn => by
    have := List.all_eq_true.1 hsz n (DataW.weights_mem_each (j := 0) rfl rfl n hn)
    exact of_decide_eq_true this
  obtain ⟨An0, nn0, cn0, Ai0, ni0, ci0, Ao0, no0, co0, N0, I0, O0, rfl, H0⟩ := open_net (hval 0 25 v0 rfl rfl) h0 hz0
  have hb1 : Rows.uptoBulk d1 ≤ 1048576 := by
    simp only [Rows.uptoBulkAll] at hbulk
    omega
  obtain ⟨As1, ns1, cs1, T1, rfl, HE1, hs1⟩ := open_scriptE (hval 1 26 v1 rfl rfl) h1
  obtain ⟨Ab2, nb2, cb2, L2, rfl, HB2, hl2, hn2⟩ := open_bytes6 (hval 2 27 v2 rfl rfl) h2 (fun n hn => by
    have := List.all_eq_true.1 hsz n (DataW.weights_mem_each (j := 2) rfl rfl n hn)
    exact of_decide_eq_true this)
  clear hA0 hval0
  refine (simSteps_as H0 (HE1.up hb1) (Nat.le_trans hs1 hb1) HB2 hl2 hn2).mono fun e W' ⟨he, bel⟩ => ?_
  subst he
  exact ⟨_, rfl, _, _, _, [], _, [], hW', trodAll_mk1 (shut_bool Try.underlying4 _), (trodAll_cons_mk (Below.trod laidOut (by kernel_rfl) (of_decide_eq_true (by kernel_rfl)) k0 bel lt0) (trodAll_cons_mk (Below.trod laidOut (by kernel_rfl) (of_decide_eq_true (by kernel_rfl)) k1 bel lt1) (trodAll_cons_mk (Below.trod laidOut (by kernel_rfl) (of_decide_eq_true (by kernel_rfl)) k2 bel lt2) trodAll_mk0))), rfl, bel.frame _, fun h => by cases h⟩

theorem over : Rows.SimStepsUptoSaid :=
  OpenClaim.holds_of_cond 3 Try.f3 rfl rfl rfl rfl rfl rfl rfl ⟨rfl, rfl, rfl, rfl, rfl⟩ rfl rfl rfl rfl rfl (by kernel_rfl) Try.func3 (by kernel_rfl)
    (of_decide_eq_true (by kernel_rfl)) (by unfold Func.isWrapper; first | (rw [if_pos (by decide +kernel)]; kernel_rfl) | (rw [if_neg (by decide +kernel)]; exact ⟨rfl, rfl⟩))
    (fun os started H enc _ F => lifted os started H enc F)

/-- THE STATEMENT. -/
theorem proved : Rows.SimStepsUptoSaid := over
end Go.Proofs.Ytacphhfhahgeaaa.simStepsDone
namespace Go.Proofs.Ytacphhfhahgeaaa
theorem simSteps_holds : Rows.SimStepsUptoSaid := simStepsDone.proved
#print axioms simSteps_holds
end Go.Proofs.Ytacphhfhahgeaaa
