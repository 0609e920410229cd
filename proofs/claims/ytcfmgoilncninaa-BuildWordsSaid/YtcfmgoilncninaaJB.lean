/-
  Going down from each node: mathematics of an order in which each node stands behind those it uses.
  slipstickref07: Fast.
  build: the builder as it lies; what lays one node.
  build: what lays one node.
  build: In, Out.
  build: Regs.
  build: Word; slipstickref08: Low.
  Words behind registers: what the net tells, cycle by cycle.
  A region that draws its order and stores to one block (sx) that stood: one walk in the order of the text serves every order, though its calls make memory. What is asked: of each operation that only reads, one value in every world in which all that stood but sx is as it was; a call or a store comes up alone, in the world that the text's order leaves.
  build: clonePorts, Net.
  Layer 8: awake is true.
-/
import Derived.Test.YtcfmgoilncninaaHR
import Derived.Test.YtcfmgoilncninaaGbb
import Derived.Test.YtcfmgoilncninaaHh
import Derived.WalkSmall
import Derived.Test.YtcfmgoilncninaaHg
import Derived.Test.YtcfmgoilncninaaGaa
import Derived.Deep.RegionLaw
import Derived.Test.YtcfmgoilncninaaGq
import Derived.Test.YtcfmgoilncninaaGz
import Derived.Deep.Quiet
import Derived.OrdersHeld
import Derived.Below
import Derived.BigQuiet
import Derived.Deep.RegionHeld3
import Derived.Test.YtcfmgoilncninaaHd
import Derived.Test.YtcfmgoilncninaaGr
import Derived.Test.YtcfmgoilncninaaHk
namespace Go.Proofs.Ytcfmgoilncninaa
set_option linter.unusedVariables false
set_option maxRecDepth 4000

theorem nodup_le : ∀ (n : Nat) (L : List Nat), L.Nodup → (∀ x ∈ L, x < n) → L.length ≤ n
  | 0, L, _, h => by
    cases L with
    | nil => exact Nat.le_refl _
    | cons x L => exact absurd (h x (List.mem_cons_self ..)) (by omega)
  | n + 1, L, hn, h => by
    by_cases hm : n ∈ L
    · have := nodup_le n (L.erase n) (hn.erase n) fun x hx => by
        have h1 := (hn.mem_erase_iff).1 hx
        have := h x h1.2
        have := h1.1
        omega
      rw [List.length_erase_of_mem hm] at this
      omega
    · have := nodup_le n L hn fun x hx => by
        have h1 := h x hx
        have : x ≠ n := fun e => hm (e ▸ hx)
        omega
      omega
theorem ord_snoc {dep : Nat → List Nat} : ∀ {L : List Nat} {q : Nat}, Ord dep L → q ∉ L → (∀ p ∈ L, q ∉ dep p) → q ∉ dep q → Ord dep (L ++ [q])
  | [], q, _, _, _, h => ⟨by simp, fun j hj => ⟨fun e => h (e ▸ hj), by simp⟩, trivial⟩
  | p :: L, q, ho, h1, h2, h3 => by
    obtain ⟨o1, o2, o3⟩ := ho
    refine ⟨?_, fun j hj => ⟨(o2 j hj).1, ?_⟩, ord_snoc o3 (fun hm => h1 (List.mem_cons_of_mem _ hm)) (fun p' hp => h2 p' (List.mem_cons_of_mem _ hp)) h3⟩
    · intro hm
      rcases List.mem_append.1 hm with hm | hm
      · exact o1 hm
      · rw [List.mem_singleton] at hm
        exact h1 (hm ▸ List.mem_cons_self ..)
    · intro hm
      rcases List.mem_append.1 hm with hm | hm
      · exact (o2 j hj).2 hm
      · rw [List.mem_singleton] at hm
        exact h2 p (List.mem_cons_self ..) (hm ▸ hj)
def deps (N : List Nd) (q : Nat) : List Nat := needS (N.getD q nd0)
/-- an order of all nodes, in which each stands behind those it uses. -/
structure Odr (N : List Nd) (L : List Nat) : Prop where
  nd : L.Nodup
  mem : ∀ i, i ∈ L ↔ i < N.length
  ord : Ord (deps N) L
theorem Odr.len {N : List Nd} {L : List Nat} (h : Odr N L) : L.length ≤ N.length := nodup_le _ _ h.nd fun x hx => (h.mem x).1 hx
theorem Od.odr {N : List Nd} {f : Nat → Nat} {L : List Nat} (h : Od N f L) : Odr N L :=
  ⟨h.nd, h.mem, by have := h.ord fun _ => true; rwa [List.filter_eq_self.2 (fun _ _ => rfl)] at this⟩
/-- the reference's values are told by what they hang on, in any such order. -/
theorem odr_sol {N : List Nd} {L : List Nat} (ho : Odr N L) {n : Int} (hf : N.all (formedS n) = true) (st inn : List Int) : Sol N st inn (refR N (nI L) st inn (nI L).length) := by
  rw [refR_nI]
  refine ⟨by rw [runL_len, List.length_replicate], fun i hi => ?_⟩
  have h := runL_at (h := fun q u => nodeS (N.getD q nd0) st inn q u) (dep := deps N) L (List.replicate N.length 0) (fun q hq u v huv => node_dep (formed_at hf ((ho.mem q).1 hq)) st inn q huv) ho.ord (fun q hq => by rw [List.length_replicate]; exact (ho.mem q).1 hq)
  exact h.1 i ((ho.mem i).2 hi)
theorem deps_lt {N : List Nd} {n : Nat} (hf : N.all (formedS n) = true) {q j : Nat} (hq : q < N.length) (hj : j ∈ deps N q) : j < n := need_lt (formed_at hf hq) j hj
theorem deps_f {N : List Nd} {f : Nat → Nat} (hf : All N f) {q j : Nat} (hq : q < N.length) (hj : j ∈ deps N q) : f j < f q := (hneed_lt hf hq hj).1
/-- on the way down: st has 0 (not seen), 1 (on the way) or 2 (done); L are those that are done, S those on the way. -/
structure Dfs (N : List Nd) (f : Nat → Nat) (st : List Int) (L S : List Nat) : Prop where
  len : st.length = N.length
  val : ∀ (i : Nat) (v : Int), st[i]? = some v → v = 0 ∨ v = 1 ∨ v = 2
  nd : L.Nodup
  two : ∀ i, i ∈ L ↔ st[i]? = some 2
  ord : Ord (deps N) L
  cl : ∀ p ∈ L, ∀ j ∈ deps N p, j ∈ L
  one : ∀ i, st[i]? = some 1 → i ∈ S
  dn : S.Pairwise (fun a b => f b < f a)
  lt : ∀ i ∈ S, i < N.length
  nt : ∀ i ∈ S, st[i]? ≠ some 2
section
variable {N : List Nd} {f : Nat → Nat} {st : List Int} {L S : List Nat} {q : Nat}
theorem Dfs.start (N : List Nd) (f : Nat → Nat) : Dfs N f (List.replicate N.length 0) [] [] where
  len := by simp
  val i v h := by
    rw [List.getElem?_replicate] at h
    split at h
    · injection h with h; exact .inl h.symm
    · cases h
  nd := List.nodup_nil
  two i := by
    rw [List.getElem?_replicate]
    split <;> simp
  ord := trivial
  cl := fun p hp => by cases hp
  one i h := by
    rw [List.getElem?_replicate] at h
    split at h
    · injection h with h; omega
    · cases h
  dn := List.Pairwise.nil
  lt := fun i hi => by cases hi
  nt := fun i hi => by cases hi
theorem Dfs.begin_ (h : Dfs N f st L []) {i : Nat} (hi : st[i]? = some 0) : Dfs N f st L [i] where
  len := h.len
  val := h.val
  nd := h.nd
  two := h.two
  ord := h.ord
  cl := h.cl
  one j hj := by have := h.one j hj; cases this
  dn := List.pairwise_singleton _ _
  lt j hj := by
    rw [List.mem_singleton] at hj
    subst hj
    rw [← h.len]
    exact (List.getElem?_eq_some_iff.1 hi).1
  nt j hj := by
    rw [List.mem_singleton] at hj
    subst hj
    rw [hi]
    intro e
    injection e with e
    omega
theorem Dfs.no1 (h : Dfs N f st L []) {i : Nat} {v : Int} (hi : st[i]? = some v) : v = 0 ∨ v = 2 := by
  rcases h.val i v hi with e | e | e
  · exact .inl e
  · subst e
    have := h.one i hi
    cases this
  · exact .inr e
theorem Dfs.top (h : Dfs N f st L (S ++ [q])) {v : Int} (hv : st[q]? = some v) : v = 0 ∨ v = 1 := by
  rcases h.val q v hv with e | e | e
  · exact .inl e
  · exact .inr e
  · subst e
    exact absurd hv (h.nt q (by simp))
/-- one that is needed and isn't done wasn't seen. -/
theorem Dfs.zero (h : Dfs N f st L (S ++ [q])) (ha : All N f) {p : Nat} (hp : p ∈ deps N q) {v : Int} (hv : st[p]? = some v) (h2 : v < 2) : v = 0 := by
  have hq : q < N.length := h.lt q (by simp)
  have hlt := deps_f ha hq hp
  rcases h.val p v hv with e | e | e
  · exact e
  · subst e
    have hm := h.one p hv
    have hd := h.dn
    rw [List.pairwise_append] at hd
    rcases List.mem_append.1 hm with hm | hm
    · have := hd.2.2 p hm q (by simp)
      omega
    · rw [List.mem_singleton] at hm
      subst hm
      omega
  · omega
theorem set_look {lv : List Int} {p : Nat} {v : Int} {i : Nat} {u : Int} (h : (lv.set p v)[i]? = some u) : (i = p ∧ u = v ∧ p < lv.length) ∨ (i ≠ p ∧ lv[i]? = some u) := by
  rw [List.getElem?_set] at h
  by_cases e : p = i
  · subst e
    simp only [if_true] at h
    split at h
    · rename_i hl
      injection h with h
      exact .inl ⟨rfl, h.symm, hl⟩
    · cases h
  · rw [if_neg e] at h
    exact .inr ⟨fun h => e h.symm, h⟩
theorem set_same {lv : List Int} {p : Nat} {v : Int} (h : p < lv.length) : (lv.set p v)[p]? = some v := by
  rw [List.getElem?_set, if_pos rfl, if_pos h]
theorem set_other {lv : List Int} {p : Nat} {v : Int} {i : Nat} (h : i ≠ p) : (lv.set p v)[i]? = lv[i]? := by
  rw [List.getElem?_set, if_neg fun e => h e.symm]
theorem Dfs.down (h : Dfs N f st L (S ++ [q])) (ha : All N f) {p : Nat} (hp : p ∈ deps N q) (hv : st[p]? = some 0) : Dfs N f (st.set q 1) L (S ++ [q] ++ [p]) := by
  have hq : q < N.length := h.lt q (by simp)
  have hq2 := h.nt q (by simp)
  have hlt := deps_f ha hq hp
  have hpn : p < N.length := by rw [← h.len]; exact (List.getElem?_eq_some_iff.1 hv).1
  have hne : p ≠ q := fun e => by subst e; omega
  refine ⟨by rw [List.length_set, h.len], ?_, h.nd, ?_, h.ord, h.cl, ?_, ?_, ?_, ?_⟩
  · intro i v hi
    rcases set_look hi with ⟨_, e, _⟩ | ⟨_, e⟩
    · exact .inr (.inl e)
    · exact h.val i v e
  · intro i
    rw [h.two i]
    constructor
    · intro hi
      have : i ≠ q := fun e => hq2 (e ▸ hi)
      rw [set_other this]
      exact hi
    · intro hi
      rcases set_look hi with ⟨_, e, _⟩ | ⟨_, e⟩
      · omega
      · exact e
  · intro i hi
    rcases set_look hi with ⟨e, _, _⟩ | ⟨_, e⟩
    · subst e; simp
    · have := h.one i e
      simp only [List.mem_append, List.mem_singleton] at this ⊢
      exact .inl this
  · rw [List.pairwise_append]
    refine ⟨h.dn, List.pairwise_singleton _ _, ?_⟩
    intro a hm b hb
    rw [List.mem_singleton] at hb
    subst hb
    have hd := h.dn
    rw [List.pairwise_append] at hd
    rcases List.mem_append.1 hm with hm | hm
    · have := hd.2.2 a hm q (by simp)
      omega
    · rw [List.mem_singleton] at hm
      subst hm
      exact hlt
  · intro i hi
    rcases List.mem_append.1 hi with hi | hi
    · exact h.lt i hi
    · rw [List.mem_singleton] at hi
      subst hi
      exact hpn
  · intro i hi e
    rcases set_look e with ⟨_, e, _⟩ | ⟨hn, e⟩
    · omega
    · rcases List.mem_append.1 hi with hi | hi
      · exact h.nt i hi e
      · rw [List.mem_singleton] at hi
        subst hi
        rw [hv] at e
        injection e with e
        omega
theorem Dfs.up (h : Dfs N f st L (S ++ [q])) (ha : All N f) (hd : ∀ j ∈ deps N q, j ∈ L) : Dfs N f ((st.set q 1).set q 2) (L ++ [q]) S := by
  have hq : q < N.length := h.lt q (by simp)
  have hq2 := h.nt q (by simp)
  have hql : q ∉ L := fun e => hq2 ((h.two q).1 e)
  have hp := h.dn
  rw [List.pairwise_append] at hp
  have hSq : ∀ i ∈ S, i ≠ q := fun i hi e => by
    have := hp.2.2 i hi q (by simp)
    subst e
    omega
  rw [List.set_set]
  refine ⟨by rw [List.length_set, h.len], ?_, ?_, ?_, ?_, ?_, ?_, hp.1, fun i hi => h.lt i (by simp [hi]), ?_⟩
  · intro i v hi
    rcases set_look hi with ⟨_, e, _⟩ | ⟨_, e⟩
    · exact .inr (.inr e)
    · exact h.val i v e
  · rw [List.nodup_append]
    refine ⟨h.nd, by simp, ?_⟩
    intro a ha b hb
    rw [List.mem_singleton] at hb
    subst hb
    intro e
    subst e
    exact hql ha
  · intro i
    rw [List.mem_append, List.mem_singleton]
    constructor
    · rintro (hi | rfl)
      · rw [set_other (fun e : i = q => hql (by rw [← e]; exact hi))]
        exact (h.two i).1 hi
      · exact set_same (by rw [h.len]; exact hq)
    · intro hi
      rcases set_look hi with ⟨e, _, _⟩ | ⟨_, e⟩
      · exact .inr e
      · exact .inl ((h.two i).2 e)
  · refine ord_snoc h.ord hql (fun p hp hm => hql (h.cl p hp q hm)) fun hm => ?_
    have := deps_f ha hq hm
    omega
  · intro p hp j hj
    rw [List.mem_append] at hp ⊢
    rcases hp with hp | hp
    · exact .inl (h.cl p hp j hj)
    · rw [List.mem_singleton] at hp
      subst hp
      exact .inl (hd j hj)
  · intro i hi
    rcases set_look hi with ⟨_, e, _⟩ | ⟨hn, e⟩
    · omega
    · have := h.one i e
      rw [List.mem_append, List.mem_singleton] at this
      rcases this with this | this
      · exact this
      · exact absurd this hn
  · intro i hi e
    rw [set_other (hSq i hi)] at e
    exact h.nt i (by simp [hi]) e
theorem Dfs.room (h : Dfs N f st L S) : L.length + S.length ≤ N.length := by
  have := nodup_le N.length (L ++ S) (by
    rw [List.nodup_append]
    refine ⟨h.nd, h.dn.imp (fun h e => by subst e; omega), ?_⟩
    intro a ha b hb e
    subst e
    exact h.nt a hb ((h.two a).1 ha)) (by
    intro x hx
    rcases List.mem_append.1 hx with hx | hx
    · rw [← h.len]
      exact (List.getElem?_eq_some_iff.1 ((h.two x).1 hx)).1
    · exact h.lt x hx)
  rwa [List.length_append] at this
theorem Dfs.odr (h : Dfs N f st L []) (hv : ∀ i < N.length, st[i]? = some 2) : Odr N L where
  nd := h.nd
  mem i := by
    rw [h.two i]
    constructor
    · intro hi
      rw [← h.len]
      exact (List.getElem?_eq_some_iff.1 hi).1
    · exact hv i
  ord := h.ord
end
end Go.Proofs.Ytcfmgoilncninaa

namespace Go.Proofs.Ytcfmgoilncninaa
open Go.RowKit
set_option linter.unusedVariables false
set_option maxRecDepth 4000

theorem i64_i : (Try.prog.info? 3).map (fun i => (i.zero, i.size, i.bytes)) = some (some (.int .i64 0), 1, 8) := by kernel_rfl
def slen : Value → Nat
  | .slice _ n _ => n
  | _ => 0
/-- what Fast has made, as it lies. -/
structure Ds (w : World) (B g : Nat) (ov sv : Value) (st : List Int) (L S : List Nat) : Prop where
  st : Own w g 3 (ivs st)
  o : Grow w B 3 ov (ivs (nI L))
  s : Grow w B 3 sv (ivs (nI S))
  og : ov.ownBlock ≠ some g
  sg : sv.ownBlock ≠ some g
  os : ∀ b, ov.ownBlock = some b → sv.ownBlock ≠ some b
  lb : B ≤ g
  hb : B ≤ w.heap.size
section
variable {w w' : World} {B g : Nat} {ov sv : Value} {st : List Int} {L S : List Nat}
theorem Ds.on (h : Ds w B g ov sv st L S) (hb : Below w.heap.size w w') : Ds w' B g ov sv st L S :=
  ⟨h.st.below hb h.st.lt, row_on h.o hb, row_on h.s hb, h.og, h.sg, h.os, h.lb, Nat.le_trans h.hb hb.size⟩
theorem Ds.set (h : Ds w B g ov sv st L S) (k : Nat) (x : Int) : Ds (w.setCell ⟨g, k, none⟩ (.int .i64 x)) B g ov sv (st.set k x) L S :=
  ⟨by rw [← ivs_set]; exact h.st.put k _, h.o.kept (grown_set w ⟨g, k, none⟩ _) (fun b hb e => h.og (hb.trans e.symm)), h.s.kept (grown_set w ⟨g, k, none⟩ _) (fun b hb e => h.sg (hb.trans e.symm)), h.og, h.sg, h.os, h.lb, Nat.le_trans h.hb (grown_set w ⟨g, k, none⟩ (.int .i64 x)).size⟩
theorem Ds.pushS (h : Ds w B g ov sv st L S) {g' cap n : Nat} {p : Nat} (hr : Grow w' B 3 (.slice (some ⟨g', 0, none⟩) n cap) (ivs (nI S) ++ [.int .i64 (p : Int)])) (hg : w.grownBy w' sv.ownBlock) (hw : sv.ownBlock = some g' ∨ w.heap.size ≤ g') : Ds w' B g ov (.slice (some ⟨g', 0, none⟩) n cap) st L (S ++ [p]) := by
  have e : ivs (nI (S ++ [p])) = ivs (nI S) ++ [.int .i64 (p : Int)] := by unfold ivs nI; simp
  refine ⟨h.st.kept hg (fun e => h.sg e.symm), h.o.kept hg (fun b hb e => h.os b hb e), by rw [e]; exact hr, h.og, ?_, ?_, h.lb, Nat.le_trans h.hb hg.size⟩
  · intro e
    have e : g' = g := by injection e
    rcases hw with h1 | h1
    · exact h.sg (by rw [h1, e])
    · have := h.st.lt
      omega
  · intro b hb e
    have e : g' = b := by injection e
    rcases hw with h1 | h1
    · exact h.os b hb (by rw [h1, e])
    · have := (h.o.lt b hb).2
      omega
theorem Ds.pushO (h : Ds w B g ov sv st L S) {g' cap n : Nat} {p : Nat} (hr : Grow w' B 3 (.slice (some ⟨g', 0, none⟩) n cap) (ivs (nI L) ++ [.int .i64 (p : Int)])) (hg : w.grownBy w' ov.ownBlock) (hw : ov.ownBlock = some g' ∨ w.heap.size ≤ g') : Ds w' B g (.slice (some ⟨g', 0, none⟩) n cap) sv st (L ++ [p]) S := by
  have e : ivs (nI (L ++ [p])) = ivs (nI L) ++ [.int .i64 (p : Int)] := by unfold ivs nI; simp
  refine ⟨h.st.kept hg (fun e => h.og e.symm), by rw [e]; exact hr, h.s.kept hg (fun b hb e => h.os b e hb), ?_, h.sg, ?_, h.lb, Nat.le_trans h.hb hg.size⟩
  · intro e
    have e : g' = g := by injection e
    rcases hw with h1 | h1
    · exact h.og (by rw [h1, e])
    · have := h.st.lt
      omega
  · intro b hb e
    have hb : g' = b := by injection hb
    rcases hw with h1 | h1
    · exact h.os b (by rw [h1, hb]) e
    · have := (h.s.lt b e).2
      omega
theorem Ds.ofO (h : Ds w B g ov sv st L S) : ∃ A c, ov = .slice A L.length c ∧ Sw A L.length c ∧ Is w A L.length (nI L) := by
  obtain ⟨A, c, e, h1, _, h2⟩ := Grow.at h.o (n := L.length) (by unfold ivs nI; simp)
  exact ⟨A, c, e, h1, h2.is⟩
/-- the last one of the stack. -/
theorem Ds.last {q : Nat} (h : Ds w B g ov sv st L (S ++ [q])) : ∃ b c, sv = .slice (some ⟨b, 0, none⟩) (S.length + 1) c ∧ S.length + 1 ≤ c ∧ w.cell? ⟨b, S.length, none⟩ = some (.int .i64 (q : Int)) ∧ Ds w B g ov (.slice (some ⟨b, 0, none⟩) S.length c) st L S := by
  have hs := h.s
  have e : ivs (nI (S ++ [q])) = ivs (nI S) ++ [.int .i64 (q : Int)] := by unfold ivs nI; simp
  have hl : (ivs (nI S)).length = S.length := by unfold ivs nI; simp
  unfold Grow at hs
  rw [e, List.length_append, hl] at hs
  have hs0 := hs
  rcases hs with ⟨_, ⟨_, hn0⟩ | ⟨b, c, cur, rfl, _⟩⟩
  · exact absurd hn0 (by simp)
  have hs := hs0
  clear hs0
  have hc := hs.cellAt S.length (by simp)
  rw [List.getElem?_append_right (by rw [hl]; exact Nat.le_refl _), hl, Nat.sub_self] at hc
  obtain ⟨A', c', ev, sw, _, _⟩ := row_at hs
  injection ev with ea en ec
  subst ea ec
  refine ⟨b, c, rfl, sw.1, hc, ⟨h.st, h.o, ?_, h.og, h.sg, h.os, h.lb, h.hb⟩⟩
  unfold Grow
  rw [hl]
  exact ownsRow_pop (by rw [hl, Nat.mul_one]) hs
theorem Ds.stk (h : Ds w B g ov sv st L S) : slen sv = S.length := by
  obtain ⟨A, c, rfl, _⟩ := Grow.at h.s (n := S.length) (by unfold ivs nI; simp)
  rfl
theorem Ds.out_ (h : Ds w B g ov sv st L S) : slen ov = L.length := by
  obtain ⟨A, c, rfl, _⟩ := Grow.at h.o (n := L.length) (by unfold ivs nI; simp)
  rfl
end
theorem needs_at {N : List Nd} {q : Nat} {x : Nd} (hx : N[q]? = some x) (h7 : x.k ≠ 7) {n : Nat} (hf : N.all (formedS n) = true) : ∀ (j : Nat) (y : Int), (usesS x)[j]? = some y → ∃ p : Nat, y = (p : Int) ∧ p < n ∧ p ∈ deps N q := by
  intro j y hy
  have hm : y ∈ usesS x := List.mem_of_getElem? hy
  have hfx := List.all_eq_true.1 hf x (List.mem_of_getElem? hx)
  have h1 : placeS n y = true := by
    unfold formedS at hfx
    simp only [Bool.and_eq_true] at hfx
    exact List.all_eq_true.1 hfx.2.2.1 y hm
  unfold placeS at h1
  simp only [Bool.and_eq_true, decide_eq_true_eq] at h1
  refine ⟨y.toNat, by omega, by omega, ?_⟩
  unfold deps needS
  rw [getD_of hx, if_neg h7]
  exact List.mem_map_of_mem hm
theorem needs_all {N : List Nd} {q : Nat} {x : Nd} (hx : N[q]? = some x) {P : Nat → Prop} (h : ∀ y ∈ usesS x, P y.toNat) : ∀ j ∈ deps N q, P j := by
  intro j hj
  unfold deps needS at hj
  rw [getD_of hx] at hj
  split at hj
  · cases hj
  · obtain ⟨y, hy, rfl⟩ := List.mem_map.1 hj
    exact h y hy
theorem needs_7 {N : List Nd} {q : Nat} {x : Nd} (hx : N[q]? = some x) (h7 : x.k = 7) : deps N q = [] := by
  unfold deps needS
  rw [getD_of hx, if_pos h7]
set_option maxRecDepth 20000 in
set_option maxHeartbeats 16000000 in
/-- FAST. -/
theorem fast_as {An Ai Ao : Option Addr} {nn cn ni ci no co : Nat} {N : List Nd} {I O : List Pt} {w : World} (h : Nt w An nn cn Ai ni ci Ao no co N I O) (hf : N.all (formedS nn) = true) (hbt : (I ++ O).all (bitsS nn) = true) {f : Nat → Nat} (ha : All N f) :
    Calls Try.prog 31 #[.agg #[.slice An nn cn, .slice Ai ni ci, .slice Ao no co]] w fun en w' => ∃ (A : Option Addr) (c : Nat) (L : List Nat), en = .returned (.tuple #[.slice A L.length c, .bool true]) ∧ Is w' A L.length (nI L) ∧ Sw A L.length c ∧ Odr N L ∧ Below w.heap.size w w' := by
  have HF := Lib.hid hf
  have HA := Lib.hid ha
  have HBT : Hid ((N.all (formedS nn) && (I ++ O).all (bitsS nn)) = true) := Lib.hid (by rw [hf, hbt]; rfl)
  have HNL : Hid (N.length = nn) := Lib.hid h.n.1
  have hn := h.hn
  clear hf hbt ha
  go_enter Try.func31, Try.ntmps31
  go_upto_region 1 with fail
  obtain ⟨w1, e_w1⟩ : ∃ w', w.alloc (.cells #[.slice An nn cn, .slice Ai ni ci, .slice Ao no co] 52) = w' := ⟨_, rfl⟩
  have z0 : Bx w1 w.heap.size [.slice An nn cn, .slice Ai ni ci, .slice Ao no co] := e_w1 ▸ Bx.made_k w rfl #[.slice An nn cn, .slice Ai ni ci, .slice Ao no co] 52
  have b1 : Below w.heap.size w w1 := e_w1 ▸ below_lit _ _
  rw [e_w1]
  clear e_w1
  have z0c0 := z0.2 0 _ rfl
  have z0c1 := z0.2 1 _ rfl
  have z0c2 := z0.2 2 _ rfl
  go_wp2_with fail
  refine (rformed_as (h.on b1) true HBT.out).mono ?_
  rintro en w2 ⟨rfl, b⟩
  replace z0 := z0.on b
  have BW := Below.step b1 b
  have hN := h.n.on BW
  clear z0c0 z0c1 z0c2 b1 b h
  have z0c0 := z0.2 0 _ rfl
  go_upto_region 4 with (at_make; refine wpList_zeros _ rfl _ _ 26 rfl 3 (.int .i64 0) 8 Try.underlying26 i64_i rfl (by omega) _ nn rfl rfl rfl (by omega) ?_; intro w3 ho b3 hz3)
  have B3 : Below w2.heap.size w2 w3 := b3
  clear b3 hz3 z0c0
  go_upto_region 5 with fail
  obtain ⟨w4, e_w4⟩ : ∃ w', w3.alloc (.cells #[] 3) = w' := ⟨_, rfl⟩
  have b4 : Below w3.heap.size w3 w4 := e_w4 ▸ below_lit _ _
  have o4 : Grow w4 w2.heap.size 3 (.slice (some ⟨w3.heap.size, 0, none⟩) 0 0) [] := e_w4 ▸ Grow.made w3 _ B3.size
  have s4 : w3.heap.size < w4.heap.size := by rw [← e_w4]; simp
  rw [e_w4]
  clear e_w4
  go_upto_region 6 with fail
  obtain ⟨w5, e_w5⟩ : ∃ w', w4.alloc (.cells #[] 3) = w' := ⟨_, rfl⟩
  have b5 : Below w4.heap.size w4 w5 := e_w5 ▸ below_lit _ _
  have o5 : Grow w5 w2.heap.size 3 (.slice (some ⟨w4.heap.size, 0, none⟩) 0 0) [] := e_w5 ▸ Grow.made w4 _ (Nat.le_trans B3.size b4.size)
  rw [e_w5]
  clear e_w5
  have hgl : w2.heap.size < w3.heap.size := Own.lt ho
  have D5 : Ds w5 w2.heap.size w2.heap.size (.slice (some ⟨w3.heap.size, 0, none⟩) 0 0) (.slice (some ⟨w4.heap.size, 0, none⟩) 0 0) (List.replicate nn 0) [] [] := by
    refine ⟨?_, row_on o4 b5, o5, ?_, ?_, ?_, Nat.le_refl _, Nat.le_trans B3.size (Nat.le_trans b4.size b5.size)⟩
    · have := ho.below (Below.step b4 b5) hgl
      unfold ivs
      simpa using this
    · intro e
      have e := Option.some.inj e
      simp only [] at e
      omega
    · intro e
      have e := Option.some.inj e
      simp only [] at e
      omega
    · intro b e e2
      have e := Option.some.inj e
      have e2 := Option.some.inj e2
      simp only [] at e e2
      omega
  have F5 : Dfs N f (List.replicate nn 0) [] [] := by rw [← HNL.out]; exact Dfs.start N f
  have B5 := Below.step (Below.step B3 b4) b5
  have HN := Lib.hid hN
  have Z0 := Lib.hid z0
  have HB2 := Lib.hid BW
  clear ho o4 o5 s4 hgl b4 b5 B3 hN z0 BW
  go_wp2_with fail
  go_loopw [5, 6, 7] (fun ov' sv' iv wr => ∃ (ov sv : Value) (i : Nat) (st : List Int) (L : List Nat), ov = ov' ∧ sv = sv' ∧ i ≤ nn ∧ iv = .int .i64 i ∧ Hid (Ds wr w2.heap.size w2.heap.size ov sv st L []) ∧ Hid (Dfs N f st L []) ∧ Hid (∀ k < i, st[k]? = some 2) ∧ Hid (Below w2.heap.size w2 wr)) (fun _ _ iv _ => nn - (intOf iv).toNat)
  case atStart => exact ⟨_, _, 0, _, [], rfl, rfl, Nat.zero_le _, rfl, Lib.hid D5, Lib.hid F5, Lib.hid fun k hk => by omega, Lib.hid B5⟩
  case round =>
    clear D5 F5 B5
    obtain ⟨ov, sv, i, st, L, rfl, rfl, hi, rfl, HD, HFS, H2, HB⟩ := hrel
    have z0c0 := (Z0.out.on HB.out).2 0 _ rfl
    by_cases hlt : i < nn
    · have i0 : (0 : Int) ≤ (i : Int) := by omega
      have i1 : (i : Int) < (nn : Int) := by omega
      obtain ⟨y, hy⟩ := look_ex (HFS.out.len.trans HNL.out) hlt
      have cy := (HD.out.st.cell i).trans (ivs_at hy)
      obtain ⟨A6, c6, rfl, sw6, _, _⟩ := Grow.at HD.out.s (n := 0) rfl
      rcases HFS.out.no1 hy with h0 | h0
      · subst h0
        have HY := Lib.hid hy
        have hgr := HD.out.s
        have hsz := HD.out.hb
        clear hy
        go_wp2_with (at_builtin; refine wpList_push3 _ rfl _ _ 26 rfl elm_int (by omega) w2.heap.size _ _ rfl hgr _ rfl rfl (by simp [ivs, nI]) hsz ?_; intro g7 cap7 w7 hr7 hG7 hw7)
        have D7 := Lib.hid (HD.out.pushS hr7 hG7 hw7)
        have F7 := Lib.hid (HFS.out.begin_ HY.out)
        have B7 : Below w2.heap.size w2 w7 := HB.out.grown hG7 HB.out.size fun k hk => (hgr.lt k hk).1
        clear hgr hsz hr7 hG7 hw7 HD HFS HB cy sw6 z0c0
        go_loopw [5, 6] (fun ov' sv' wr => ∃ (ov sv : Value) (st : List Int) (L S : List Nat), ov = ov' ∧ sv = sv' ∧ Hid (Ds wr w2.heap.size w2.heap.size ov sv st L S) ∧ Hid (Dfs N f st L S) ∧ Hid (st[i]? = some 2 ∨ i ∈ S) ∧ Hid (∀ k < i, st[k]? = some 2) ∧ Hid (Below w2.heap.size w2 wr)) (fun ov sv _ => 2 * (nn - slen ov) - slen sv)
        case atStart => exact ⟨_, _, _, _, _, rfl, rfl, D7, F7, Lib.hid (.inr (List.mem_singleton.2 rfl)), H2, Lib.hid B7⟩
        case round =>
          clear D7 F7 B7 H2 HY
          obtain ⟨ov, sv, st, L, S, rfl, rfl, HD, HFS, HI, H2, HB⟩ := hrel
          rcases snoc_cases S with rfl | ⟨V, q, rfl⟩
          · obtain ⟨A6, c6, rfl, sw6, _, _⟩ := Grow.at HD.out.s (n := 0) rfl
            go_wp2_with fail
            go_roundw
            case rel =>
              refine ⟨_, _, i + 1, st, L, rfl, rfl, by omega, by go_num, HD, HFS, Lib.hid fun k hk => ?_, HB⟩
              rcases HI.out with h | h
              · by_cases e : k = i
                · rw [e]; exact h
                · exact H2.out k (by omega)
              · cases h
            case measure => simp [intOf]; omega
          · obtain ⟨b6, c6, rfl, hc6, cq, hpop⟩ := HD.out.last
            have HP := Lib.hid hpop
            have HO : Hid (slen ov = L.length) := Lib.hid HD.out.out_
            have HQN : Hid (q < nn) := Lib.hid (by rw [← HNL.out]; exact HFS.out.lt q (by simp))
            have hqn := HQN.out
            obtain ⟨bn, off, x1, x2, x3, x4, eA, HX, n0, n1, n2, n3⟩ := (HN.out.on HB.out).at hqn
            subst eA
            have z0c0 := (Z0.out.on HB.out).2 0 _ rfl
            have HRM := HFS.out.room
            rw [List.length_append, List.length_singleton, HNL.out] at HRM
            have j0 : (0 : Int) ≤ (q : Int) := by omega
            have j1 : (q : Int) < (nn : Int) := by omega
            have q3 : IntKind.i64.wrap (((V.length : Nat) : Int) + 1 - 1) = (V.length : Int) := by rw [IntKind.wrap_i64]; omega
            have j2 : (0 : Int) ≤ (V.length : Int) := by omega
            have j3 : (V.length : Int) < (V.length : Int) + 1 := by omega
            clear hpop
            obtain ⟨wo, rfl⟩ : ∃ x, x = wr := ⟨_, rfl⟩
            go_upto_region 13 with fail
            go_cut [9] from 37 to 112 (fun a wx => a = .int .i64 (-1) ∧ wo = wx)
            case first =>
              go_wp2_with fail
              go_meet
              exact ⟨rfl, rfl⟩
            obtain ⟨rfl, rfl⟩ := hcut
            apply_assumption
            go_step
            go_cut [9, 10, 11] from 37 to 112 (fun a _ _ wx => ∃ d : Int, a = .int .i64 d ∧ Hid ((d = -1 ∧ ∀ j ∈ deps N q, st[j]? = some 2) ∨ ∃ p : Nat, d = (p : Int) ∧ p < nn ∧ p ∈ deps N q ∧ st[p]? = some 0) ∧ Hid (Below wo.heap.size wo wx))
            case first =>
              by_cases h7 : x1 = 7
              · subst h7
                have HD7 : Hid (∀ j ∈ deps N q, st[j]? = some 2) := Lib.hid fun j hj => by rw [needs_7 HX.out rfl] at hj; cases hj
                go_wp2_with fail
                go_meet
                exact ⟨-1, rfl, Lib.hid (.inl ⟨rfl, HD7.out⟩), Lib.hid (Below.refl _ _)⟩
              · have e7 : (x1 != 7) = true := by simpa using h7
                have H7 := Lib.hid h7
                clear h7
                go_wp2_with fail
                refine (ruses_as x1 x2 x3 x4 _).mono ?_
                rintro en w7 ⟨Al, m, cl, rfl, hl, hm3, b7⟩
                have D7 := Lib.hid (HD.out.on b7)
                have HAT := Lib.hid (needs_at HX.out H7.out HF.out)
                go_wp2_with fail
                go_loopw [9, 11] (fun dv kv w9 => ∃ (j : Nat) (d : Int), j ≤ m ∧ kv = .int .i64 j ∧ dv = .int .i64 d ∧ Hid ((d = -1 ∧ ∀ y ∈ (usesS ⟨x1, x2, x3, x4⟩).take j, st[y.toNat]? = some 2) ∨ ∃ p : Nat, d = (p : Int) ∧ p < nn ∧ p ∈ deps N q ∧ st[p]? = some 0) ∧ Hid (Below w7.heap.size w7 w9)) (fun _ kv _ => m - (intOf kv).toNat)
                case atStart => exact ⟨0, -1, Nat.zero_le _, rfl, rfl, Lib.hid (.inl ⟨rfl, fun y hy => by simp at hy⟩), Lib.hid (Below.refl _ _)⟩
                case round =>
                  obtain ⟨j, d, hj, rfl, rfl, HDJ, HB9⟩ := hrel
                  by_cases hjm : j < m
                  · obtain ⟨b3, o3, y, rfl, HY3, c3⟩ := (hl.on HB9.out).at hjm
                    obtain ⟨p, rfl, hp, hpd⟩ := HAT.out j y HY3.out
                    obtain ⟨v, hv⟩ := look_ex (HFS.out.len.trans HNL.out) hp
                    have HV := Lib.hid hv
                    have HPD := Lib.hid hpd
                    have cv := ((D7.out.on HB9.out).st.cell p).trans (ivs_at hv)
                    have k0 : (0 : Int) ≤ (j : Int) := by omega
                    have k1 : (j : Int) < (m : Int) := by omega
                    have k2 : (0 : Int) ≤ (p : Int) := by omega
                    have k3 : (p : Int) < (nn : Int) := by omega
                    clear hv hpd
                    by_cases hv2 : v < 2
                    · obtain rfl := HFS.out.zero HA.out HPD.out HV.out hv2
                      clear hv2
                      go_wp2_with fail
                      go_roundw
                      case rel => exact ⟨j + 1, (p : Int), by omega, by go_num, rfl, Lib.hid (.inr ⟨p, rfl, hp, HPD.out, HV.out⟩), HB9⟩
                      case measure => simp [intOf]; omega
                    · have hv2e : v = 2 := by
                        rcases HFS.out.val p v HV.out with e | e | e <;> omega
                      subst hv2e
                      go_wp2_with fail
                      go_roundw
                      case rel =>
                        refine ⟨j + 1, d, by omega, by go_num, rfl, Lib.hid ?_, HB9⟩
                        rcases HDJ.out with ⟨e, h⟩ | h
                        · refine .inl ⟨e, fun y hy => ?_⟩
                          rw [List.take_add_one, HY3.out] at hy
                          rcases List.mem_append.1 hy with hy | hy
                          · exact h y hy
                          · have hy : y = (p : Int) := by simpa using hy
                            rw [hy, Int.toNat_natCast]
                            exact HV.out
                        · exact .inr h
                      case measure => simp [intOf]; omega
                  · obtain rfl : j = m := by omega
                    go_wp2_with fail
                    go_meet
                    refine ⟨d, rfl, Lib.hid ?_, Lib.hid (Below.step b7 HB9.out)⟩
                    rcases HDJ.out with ⟨e, h⟩ | h
                    · rw [List.take_of_length_le (by rw [hl.1]; exact Nat.le_refl _)] at h
                      exact .inl ⟨e, needs_all HX.out h⟩
                    · exact .inr h
            obtain ⟨d, rfl, HDD, HB8⟩ := hcut
            obtain ⟨w8, rfl⟩ : ∃ x, x = wc := ⟨_, rfl⟩
            have D8 := Lib.hid (HD.out.on HB8.out)
            have P8 := Lib.hid (HP.out.on HB8.out)
            have HB28 := Lib.hid (Below.step HB.out HB8.out)
            obtain ⟨yq, hyq⟩ := look_ex (HFS.out.len.trans HNL.out) hqn
            have cyq := (D8.out.st.cell q).trans (ivs_at hyq)
            have fyq := D8.out.st.free q
            obtain ⟨w9, e_w9⟩ : ∃ w', w8.setCell ⟨w2.heap.size, q, none⟩ (.int .i64 1) = w' := ⟨_, rfl⟩
            have D9 : Hid (Ds w9 w2.heap.size w2.heap.size ov (.slice (some ⟨b6, 0, none⟩) (V.length + 1) c6) (st.set q 1) L (V ++ [q])) := Lib.hid (e_w9 ▸ D8.out.set q 1)
            have P9 : Hid (Ds w9 w2.heap.size w2.heap.size ov (.slice (some ⟨b6, 0, none⟩) V.length c6) (st.set q 1) L V) := Lib.hid (e_w9 ▸ P8.out.set q 1)
            have HB9 : Hid (Below w2.heap.size w2 w9) := Lib.hid (e_w9 ▸ HB28.out.setCell (Nat.le_refl _) _)
            have HT := HFS.out.top hyq
            have HYQ := Lib.hid hyq
            clear hyq HD HP HB HB8 HB28 n0 n1 n2 n3 z0c0 cq
            apply_assumption
            go_step
            go_cut [8] from 37 to 112 (fun a wx => a = .int .i64 q ∧ w9 = wx)
            case first =>
              rcases HT with h0 | h0
              · subst h0
                go_wp2_with fail
                go_meet
                first | exact ⟨rfl, rfl⟩ | exact ⟨rfl, e_w9.symm⟩
              · subst h0
                go_wp2_with fail
                go_meet
                first | exact ⟨rfl, rfl⟩ | exact ⟨rfl, e_w9.symm⟩
            obtain ⟨rfl, rfl⟩ := hcut
            clear e_w9 cyq fyq D8 P8 HT
            have c9q : w9.cell? ⟨w2.heap.size, q, none⟩ = some (.int .i64 1) := (D9.out.st.cell q).trans (ivs_at (set_same (by rw [HFS.out.len]; rw [HNL.out]; exact hqn)))
            rcases HDD.out with ⟨rfl, hd⟩ | ⟨p, rfl, hp, hpd, hp0⟩
            · have HUP := Lib.hid (HFS.out.up HA.out (fun j hj => (HFS.out.two j).2 (hd j hj)))
              clear hd HDD
              have hgr := P9.out.o
              have hsz := P9.out.hb
              have hll : (ivs (nI L)).length + 1 ≤ 1000000 := by
                unfold ivs nI
                rw [List.length_map, List.length_map]
                omega
              have hVc : V.length ≤ c6 := by omega
              have hVc2 : (V.length : Int) ≤ (c6 : Int) := by omega
              go_wp2_with (at_builtin; refine wpList_push3 _ rfl _ _ 26 rfl elm_int (by omega) w2.heap.size _ _ rfl hgr _ rfl rfl hll hsz ?_; intro g7 cap7 w10 hr7 hG7 hw7; have P10 := P9.out.pushO hr7 hG7 hw7; have c10 := (P10.st.cell q).trans (ivs_at (set_same (by rw [HFS.out.len]; rw [HNL.out]; exact hqn))); have f10 := P10.st.free q)
              have P11 := Lib.hid (P10.set q 2)
              have B11 := Lib.hid ((HB9.out.grown hG7 HB9.out.size fun k hk => (hgr.lt k hk).1).setCell (Nat.le_refl _) _ : Below w2.heap.size w2 (w10.setCell ⟨w2.heap.size, q, none⟩ (.int .i64 2)))
              go_roundw
              case rel =>
                refine ⟨_, _, _, _, V, rfl, rfl, P11, HUP, Lib.hid ?_, Lib.hid fun k hk => ?_, B11⟩
                · rw [List.set_set]
                  by_cases e : i = q
                  · subst e
                    exact .inl (set_same (by rw [HFS.out.len, HNL.out]; exact hqn))
                  · rcases HI.out with h | h
                    · exact .inl (by rw [set_other e]; exact h)
                    · rcases List.mem_append.1 h with h | h
                      · exact .inr h
                      · exact absurd (List.mem_singleton.1 h) e
                · rw [List.set_set]
                  by_cases e : k = q
                  · subst e
                    exact set_same (by rw [HFS.out.len, HNL.out]; exact hqn)
                  · rw [set_other e]
                    exact H2.out k hk
              case measure =>
                have e1 := P11.out.out_
                rw [HO.out]
                simp only [slen, List.length_append, List.length_singleton] at e1 ⊢
                omega
            · have HDN := Lib.hid (HFS.out.down HA.out hpd hp0)
              have hne : p ≠ q := by
                intro e
                have := deps_f HA.out (HFS.out.lt q (by simp)) hpd
                rw [e] at this
                omega
              have c9p : w9.cell? ⟨w2.heap.size, p, none⟩ = some (.int .i64 0) := (D9.out.st.cell p).trans (ivs_at (by rw [set_other hne]; exact hp0))
              have k2 : (0 : Int) ≤ (p : Int) := by omega
              have k3 : (p : Int) < (nn : Int) := by omega
              have hgr := D9.out.s
              have hsz := D9.out.hb
              have hll : (ivs (nI (V ++ [q]))).length + 1 ≤ 1000000 := by
                unfold ivs nI
                rw [List.length_map, List.length_map, List.length_append, List.length_singleton]
                omega
              have HRM2 := HDN.out.room
              rw [List.length_append, List.length_append, List.length_singleton, List.length_singleton, HNL.out] at HRM2
              clear hne hpd hp0 HDD c9q
              go_wp2_with (at_builtin; refine wpList_push3 _ rfl _ _ 26 rfl elm_int (by omega) w2.heap.size _ _ rfl hgr _ rfl rfl hll hsz ?_; intro g7 cap7 w10 hr7 hG7 hw7)
              have D10 := Lib.hid (D9.out.pushS hr7 hG7 hw7)
              have B10 := Lib.hid (HB9.out.grown hG7 HB9.out.size fun k hk => (hgr.lt k hk).1)
              go_roundw
              case rel =>
                refine ⟨_, _, _, L, V ++ [q] ++ [p], rfl, rfl, D10, HDN, Lib.hid ?_, Lib.hid fun k hk => ?_, B10⟩
                · rcases HI.out with h | h
                  · have e : i ≠ q := fun e => HFS.out.nt q (by simp) (e ▸ h)
                    exact .inl (by rw [set_other e]; exact h)
                  · exact .inr (List.mem_append_left _ h)
                · have e : k ≠ q := fun e => HFS.out.nt q (by simp) (e ▸ H2.out k hk)
                  rw [set_other e]
                  exact H2.out k hk
              case measure =>
                have e1 := D10.out.stk
                rw [HO.out]
                simp only [slen, List.length_append, List.length_singleton] at e1 ⊢
                omega
      · subst h0
        have z5 := (Z0.out.on HB.out).2 0 _ rfl
        go_wp2_with fail
        refine wp_loop_rounds 1 ?_
        rw [rounds_succ]
        go_wp2_with fail
        go_roundw
        case rel =>
          refine ⟨_, _, i + 1, st, L, rfl, rfl, by omega, by go_num, HD, HFS, Lib.hid fun k hk => ?_, HB⟩
          by_cases e : k = i
          · rw [e]; exact hy
          · exact H2.out k (by omega)
        case measure => simp [intOf]; omega
    · obtain rfl : i = nn := by omega
      obtain ⟨A, c, rfl, sw, hI⟩ := HD.out.ofO
      have HOD := Lib.hid (HFS.out.odr (fun k hk => H2.out k (by rw [← HNL.out]; exact hk)))
      go_wp2_with fail
      go_ret2
      exact ⟨A, c, L, rfl, hI, sw, HOD.out, Below.step HB2.out HB.out⟩
end Go.Proofs.Ytcfmgoilncninaa

namespace Go.Proofs.Ytcfmgoilncninaa
open Go.RowKit
set_option linter.unusedVariables false
set_option maxRecDepth 4000

/-- ports of a row of the builder's own; their bits lie in blocks of places below top. -/
def PG (w : World) (base top : Nat) (v : Value) (L : List Pt) : Prop := ∃ R : List Rp, w.ownsRow base 119 2 v L.length (R.flatMap ptC) ∧ R.length = L.length ∧ ∀ (k : Nat) (r : Rp) (q : Pt), R[k]? = some r → L[k]? = some q → r.name = q.name ∧ Sw r.A r.m r.c ∧ RwT 3 w r.A r.m (ivs q.bits) ∧ AdOk (· < top) r.A
/-- the builder: a variable of its own, rows of nodes and ports of its own. -/
structure Bd (w : World) (base top p : Nat) (N : List Nd) (I O : List Pt) : Prop where
  ex : ∃ vn vi vo, Own w p 126 [vn, vi, vo] ∧ w.ownsRow base 117 4 vn N.length (N.flatMap ndC) ∧ PG w base top vi I ∧ PG w base top vo O ∧ ∀ b, vi.ownBlock = some b → vo.ownBlock ≠ some b
  lo : base ≤ p
  le : base ≤ top
  tp : top ≤ w.heap.size
/-- none of the builder's blocks is of these. -/
def Dj (w : World) (p T T2 : Nat) : Prop := ∀ b, T ≤ b → b < T2 → b ≠ p ∧ ∀ k v, w.cell? ⟨p, k, none⟩ = some v → v.ownBlock ≠ some b
/-- what building changes. -/
structure BF (base p : Nat) (w w' : World) : Prop where
  bw : Below base w w'
  tk : ∀ t, t ≠ 126 → t ≠ 117 → t ≠ 119 → TK t w w'
  own : ∀ T T2, T2 ≤ w.heap.size → Dj w p T T2 → Dj w' p T T2 ∧ ∀ b, T ≤ b → b < T2 → w'.heap[b]? = w.heap[b]?
theorem BF.refl (base p : Nat) (w : World) : BF base p w w := ⟨Below.refl _ _, fun t _ _ _ b cs f h => rfl, fun T T2 _ h => ⟨h, fun _ _ _ => rfl⟩⟩
theorem BF.trans {base p : Nat} {w w' w'' : World} (h : BF base p w w') (k : BF base p w' w'') : BF base p w w'' := ⟨h.bw.trans k.bw, fun t a b c => (h.tk t a b c).trans (k.tk t a b c), fun T T2 ht hd => by
  obtain ⟨h1, h2⟩ := h.own T T2 ht hd
  obtain ⟨k1, k2⟩ := k.own T T2 (Nat.le_trans ht h.bw.size) h1
  exact ⟨k1, fun b x y => (k2 b x y).trans (h2 b x y)⟩⟩
theorem BF.of {base p : Nat} {w w' : World} (hb : base ≤ w.heap.size) (hp : p < w.heap.size) (b : Below w.heap.size w w') : BF base p w w' := ⟨b.mono hb, fun t _ _ _ => TK.below b, fun T T2 ht hd => ⟨fun c x y => ⟨(hd c x y).1, fun k v hv => (hd c x y).2 k v (by rw [← hv]; exact (b.cell (p := ⟨p, k, none⟩) hp).symm)⟩, fun c _ y => b.block c (Nat.lt_of_lt_of_le y ht)⟩⟩
theorem b_ne : (3 : TypeId) ≠ 126 ∧ (3 : TypeId) ≠ 117 ∧ (3 : TypeId) ≠ 119 ∧ (126 : TypeId) ≠ 117 ∧ (126 : TypeId) ≠ 119 ∧ (117 : TypeId) ≠ 119 := by decide
theorem BF.int {base p : Nat} {w w' : World} (h : BF base p w w') : TK 3 w w' := h.tk _ b_ne.1 b_ne.2.1 b_ne.2.2.1
theorem row_tk {t : TypeId} {w w' : World} {base size n : Nat} {v : Value} {xs : List Value} (h : w.ownsRow base t size v n xs) (hk : TK t w w') : w'.ownsRow base t size v n xs := by
  refine ⟨h.1, ?_⟩
  rcases h.2 with h1 | ⟨g, cap, cur, rfl, h2, h3, h4⟩
  · exact .inl h1
  · exact .inr ⟨g, cap, cur, rfl, h2, (hk g _ _ h3).trans h3, h4⟩
theorem own_tk {t : TypeId} {w w' : World} {g : Nat} {cs : List Value} (h : Own w g t cs) (hk : TK t w w') : Own w' g t cs := (hk g _ _ h).trans h
theorem own_row {t t' : TypeId} {w w' : World} {base size n g : Nat} {cs : List Value} {v : Value} {xs : List Value} (h : Own w g t cs) (hr : w.ownsRow base t' size v n xs) (hg : w.grownBy w' v.ownBlock) (ht : t ≠ t') : Own w' g t cs := own_tk h (TK.row hr hg ht)
/-- blocks of this type below top are as they were. -/
def TKb (t : TypeId) (top : Nat) (w w' : World) : Prop := ∀ b : Nat, b < top → ∀ cs f, w.heap[b]? = some (.cells cs t f) → w'.heap[b]? = w.heap[b]?
theorem TK.b {t : TypeId} {w w' : World} (h : TK t w w') (top : Nat) : TKb t top w w' := fun b _ cs f e => h b cs f e
theorem below_b {t : TypeId} {w w' : World} {top base : Nat} (h : Below base w w') (hb : top ≤ base) : TKb t top w w' := fun b hlt _ _ _ => h.block b (Nat.lt_of_lt_of_le hlt hb)
theorem TKb.less {t : TypeId} {w w' : World} {top top' : Nat} (h : TKb t top w w') (hb : top' ≤ top) : TKb t top' w w' := fun b hlt => h b (Nat.lt_of_lt_of_le hlt hb)
theorem RwT.tkb {t : TypeId} {w w' : World} {A : Option Addr} {n top : Nat} {vs : List Value} (h : RwT t w A n vs) (ha : AdOk (· < top) A) (hk : TKb t top w w') : RwT t w' A n vs := by
  refine ⟨⟨h.1.1, fun k u hu => ?_⟩, fun h0 => ?_⟩
  · obtain ⟨b, off, h1, h2, h3⟩ := h.1.2 k u hu
    have hkn : k < n := by have := (List.getElem?_eq_some_iff.1 hu).1; rwa [h.1.1] at this
    obtain ⟨b', off', cs, f, e, hc⟩ := h.2 (by omega)
    have e2 := h1.symm.trans e
    cases e2
    have hb := hk b (ha b off h1) cs f hc
    refine ⟨b, off, h1, ?_, (World.cell?_of_block hb).trans h3⟩
    exact (Array.getElem?_eq_some_iff.1 (hb.trans hc)).1
  · obtain ⟨b, off, cs, f, e, hc⟩ := h.2 h0
    exact ⟨b, off, cs, f, e, (hk b (ha b off e) cs f hc).trans hc⟩
theorem PG.keep {w w' : World} {base top : Nat} {v : Value} {L : List Pt} (h : PG w base top v L) (hk : TK 119 w w') (hb : TKb 3 top w w') : PG w' base top v L := by
  obtain ⟨R, h1, h2, h3⟩ := h
  refine ⟨R, row_tk h1 hk, h2, fun k r q hr hq => ?_⟩
  obtain ⟨g1, g2, g3, g4⟩ := h3 k r q hr hq
  exact ⟨g1, g2, g3.tkb g4 hb, g4⟩
theorem Bd.keep {w w' : World} {base top p : Nat} {N : List Nd} {I O : List Pt} (h : Bd w base top p N I O) (h1 : TK 126 w w') (h2 : TK 117 w w') (h3 : TK 119 w w') (hb : TKb 3 top w w') (hs : w.heap.size ≤ w'.heap.size) : Bd w' base top p N I O := by
  obtain ⟨vn, vi, vo, g1, g2, g3, g4, g5⟩ := h.ex
  exact ⟨⟨vn, vi, vo, own_tk g1 h1, row_tk g2 h2, g3.keep h3 hb, g4.keep h3 hb, g5⟩, h.lo, h.le, Nat.le_trans h.tp hs⟩
theorem Bd.on {w w' : World} {base top p : Nat} {N : List Nd} {I O : List Pt} (h : Bd w base top p N I O) (hb : Below w.heap.size w w') : Bd w' base top p N I O :=
  h.keep (TK.below hb) (TK.below hb) (TK.below hb) (below_b hb h.tp) hb.size
theorem Bd.bs {w : World} {base top p : Nat} {N : List Nd} {I O : List Pt} (h : Bd w base top p N I O) : base ≤ w.heap.size := Nat.le_trans h.le h.tp
theorem Bd.pl {w : World} {base top p : Nat} {N : List Nd} {I O : List Pt} (h : Bd w base top p N I O) : p < w.heap.size := by
  obtain ⟨vn, vi, vo, g1, _⟩ := h.ex
  exact g1.lt
theorem BF.set {p : Nat} {w X w3 : World} {v0 v1 v2 v u0 u1 u2 : Value} {fld g3 : Nat} {row : Option Nat} (hvw : Own w p 126 [v0, v1, v2]) (b : Below w.heap.size w X) (G3 : X.grownBy w3 row) (hrow : row = v0.ownBlock ∨ row = v1.ownBlock ∨ row = v2.ownBlock) (p4 : Own (w3.setCell ⟨p, fld, none⟩ v) p 126 [u0, u1, u2]) (hu : ∀ u ∈ [u0, u1, u2], u.ownBlock = some g3 ∨ u = v0 ∨ u = v1 ∨ u = v2) (hg3 : row = some g3 ∨ g3 = X.heap.size) :
    ∀ T T2, T2 ≤ w.heap.size → Dj w p T T2 → Dj (w3.setCell ⟨p, fld, none⟩ v) p T T2 ∧ ∀ c, T ≤ c → c < T2 → (w3.setCell ⟨p, fld, none⟩ v).heap[c]? = w.heap[c]? := by
  intro T T2 ht hd
  have c0 := hvw.cell 0
  have c1 := hvw.cell 1
  have c2 := hvw.cell 2
  have hne : ∀ c, T ≤ c → c < T2 → c ≠ p ∧ v0.ownBlock ≠ some c ∧ v1.ownBlock ≠ some c ∧ v2.ownBlock ≠ some c := fun c x y => by
    obtain ⟨e, h⟩ := hd c x y
    exact ⟨e, h 0 _ c0, h 1 _ c1, h 2 _ c2⟩
  have hrn : ∀ c, T ≤ c → c < T2 → row ≠ some c := fun c x y e => by
    obtain ⟨_, h0, h1, h2⟩ := hne c x y
    rcases hrow with h | h | h
    · exact h0 (h ▸ e)
    · exact h1 (h ▸ e)
    · exact h2 (h ▸ e)
  refine ⟨fun c x y => ⟨(hne c x y).1, fun k u hu' e => ?_⟩, fun c x y => ?_⟩
  · rw [p4.cell] at hu'
    obtain ⟨_, h0, h1, h2⟩ := hne c x y
    rcases hu u (List.mem_of_getElem? hu') with h | rfl | rfl | rfl
    · rw [h] at e
      rcases hg3 with h | h
      · exact hrn c x y (h.trans e)
      · have e2 : g3 = c := by injection e
        have := b.size
        omega
    · exact h0 e
    · exact h1 e
    · exact h2 e
  · have h1 : (w3.setCell ⟨p, fld, none⟩ v).heap[c]? = w3.heap[c]? := (grown_set w3 ⟨p, fld, none⟩ v).block c (by
      have := b.size
      have := G3.size
      omega) (fun e => (hne c x y).1 (by injection e))
    rw [h1, G3.block c (by have := b.size; omega) (fun e => hrn c x y e.symm)]
    exact b.block c (Nat.lt_of_lt_of_le y ht)
/-- a node is laid. -/
theorem Bd.laid {w X w3 : World} {base top p : Nat} {N : List Nd} {I O : List Pt} {vn vi vo : Value} {g3 c3 : Nat} {x : Nd} (hvw : Own w p 126 [vn, vi, vo]) (hbs : base ≤ w.heap.size) (hlo : base ≤ p) (hle : base ≤ top) (htp : top ≤ w.heap.size) (b : Below w.heap.size w X) (r2 : X.ownsRow base 117 4 vn N.length (N.flatMap ndC)) (q3 : PG X base top vi I) (q4 : PG X base top vo O) (hio : ∀ b, vi.ownBlock = some b → vo.ownBlock ≠ some b) (G3 : X.grownBy w3 vn.ownBlock) (hg3 : vn.ownBlock = some g3 ∨ g3 = X.heap.size) (r3 : w3.ownsRow base 117 4 (.slice (some ⟨g3, 0, none⟩) (N.length + 1) c3) (N.length + 1) (N.flatMap ndC ++ ndC x)) :
    Bd (w3.setCell ⟨p, 0, none⟩ (.slice (some ⟨g3, 0, none⟩) (N.length + 1) c3)) base top p (N ++ [x]) I O ∧ BF base p w (w3.setCell ⟨p, 0, none⟩ (.slice (some ⟨g3, 0, none⟩) (N.length + 1) c3)) := by
  have hv := hvw.below b hvw.lt
  have p3 := own_row hv r2 G3 b_ne.2.2.2.1
  have p4 := p3.put 0 (.slice (some ⟨g3, 0, none⟩) (N.length + 1) c3)
  have G4 := grown_set w3 ⟨p, 0, none⟩ (.slice (some ⟨g3, 0, none⟩) (N.length + 1) c3)
  have k3 : ∀ t, t ≠ 117 → TK t X w3 := fun t ht => TK.row r2 G3 ht
  have k4 : ∀ t, t ≠ 126 → TK t w3 (w3.setCell ⟨p, 0, none⟩ (.slice (some ⟨g3, 0, none⟩) (N.length + 1) c3)) := fun t ht => TK.grown G4 p3 ht
  have kp : TK 119 X (w3.setCell ⟨p, 0, none⟩ (.slice (some ⟨g3, 0, none⟩) (N.length + 1) c3)) := (k3 _ b_ne.2.2.2.2.2.symm).trans (k4 _ b_ne.2.2.2.2.1.symm)
  have ki : TK 3 X (w3.setCell ⟨p, 0, none⟩ (.slice (some ⟨g3, 0, none⟩) (N.length + 1) c3)) := (k3 _ b_ne.2.1).trans (k4 _ b_ne.1)
  refine ⟨⟨⟨.slice (some ⟨g3, 0, none⟩) (N.length + 1) c3, vi, vo, by simpa using p4, ?_, q3.keep kp (ki.b _), q4.keep kp (ki.b _), hio⟩, hlo, hle, ?_⟩, ⟨?_, fun t h1 h2 h3 => (TK.below b).trans ((k3 t h2).trans (k4 t h1)), ?_⟩⟩
  · have := row_tk r3 (k4 _ b_ne.2.2.2.1.symm)
    rw [List.length_append, List.flatMap_append]
    simpa using this
  · exact Nat.le_trans htp (Nat.le_trans b.size (Nat.le_trans G3.size G4.size))
  · exact ((b.mono hbs).grown G3 (Nat.le_trans hbs b.size) fun k hk => (r2.lt k hk).1).setCell hlo _
  · exact BF.set hvw b G3 (.inl rfl) (u0 := .slice (some ⟨g3, 0, none⟩) (N.length + 1) c3) (u1 := vi) (u2 := vo) (by simpa using p4) (by intro u hu; simp at hu; rcases hu with rfl | rfl | rfl; exact .inl rfl; exact .inr (.inr (.inl rfl)); exact .inr (.inr (.inr rfl))) hg3
theorem elm_node8 : Elm Try.prog 49 117 4 32 := elm_node
set_option maxHeartbeats 2000000 in
/-- LAY. -/
theorem lay_as {w : World} {base top p : Nat} {N : List Nd} {I O : List Pt} (h : Bd w base top p N I O) (hN : N.length ≤ 300000) (x1 x2 x3 x4 : Int) :
    Calls Try.prog 100 #[.pointer (some ⟨p, 0, none⟩), .agg #[.int .i64 x1, .int .i64 x2, .int .i64 x3, .int .i64 x4]] w fun en w' => en = .returned (.int .i64 (N.length : Int)) ∧ Bd w' base top p (N ++ [⟨x1, x2, x3, x4⟩]) I O ∧ BF base p w w' := by
  have hbs := h.bs
  have hlo := h.lo
  have hle := h.le
  have htp := h.tp
  obtain ⟨vn, vi, vo, g1, g2, g3, g4, g5⟩ := h.ex
  clear h
  obtain ⟨An, cn, rfl, swn, hbn, _⟩ := row_at g2
  go_enter Try.func100, Try.ntmps100
  go_upto_region 1 with fail
  obtain ⟨w1, e_w1⟩ : ∃ w', w.alloc (.cells #[.int .i64 x1, .int .i64 x2, .int .i64 x3, .int .i64 x4] 117) = w' := ⟨_, rfl⟩
  have z1 : Bx w1 w.heap.size [.int .i64 x1, .int .i64 x2, .int .i64 x3, .int .i64 x4] := e_w1 ▸ Bx.made_k w rfl #[.int .i64 x1, .int .i64 x2, .int .i64 x3, .int .i64 x4] 117
  have b1 : Below w.heap.size w w1 := e_w1 ▸ below_lit _ _
  rw [e_w1]
  clear e_w1
  have G1 := Lib.hid g1
  have p1 := g1.below b1 g1.lt
  have r1 := row_on g2 b1
  have q1 := g3.keep (TK.below b1) (below_b b1 htp)
  have q2 := g4.keep (TK.below b1) (below_b b1 htp)
  have z1c0 := z1.2 0 _ rfl
  have z1c1 := z1.2 1 _ rfl
  have z1c2 := z1.2 2 _ rfl
  have z1c3 := z1.2 3 _ rfl
  have c0 := p1.cell 0
  simp only [List.getElem?_cons_zero] at c0
  clear g1 g2 g3 g4
  have b2 : Below w1.heap.size w1 (w1.alloc (.cells #[.int .i64 x1, .int .i64 x2, .int .i64 x3, .int .i64 x4] 117)).drew := (below_lit _ _).drew
  have z2 : Bx (w1.alloc (.cells #[.int .i64 x1, .int .i64 x2, .int .i64 x3, .int .i64 x4] 117)).drew w1.heap.size [.int .i64 x1, .int .i64 x2, .int .i64 x3, .int .i64 x4] := (Bx.made_k w1 rfl #[.int .i64 x1, .int .i64 x2, .int .i64 x3, .int .i64 x4] 117).on ((Below.refl _ _).drew)
  have hb2 : base ≤ (w1.alloc (.cells #[.int .i64 x1, .int .i64 x2, .int .i64 x3, .int .i64 x4] 117)).drew.heap.size := Nat.le_trans (Nat.le_trans hbs b1.size) b2.size
  have p2 := p1.below b2 p1.lt
  have q3 := q1.keep (TK.below b2) (below_b b2 (Nat.le_trans htp b1.size))
  have q4 := q2.keep (TK.below b2) (below_b b2 (Nat.le_trans htp b1.size))
  have r2 := row_on r1 b2
  have c02 : (w1.alloc (.cells #[.int .i64 x1, .int .i64 x2, .int .i64 x3, .int .i64 x4] 117)).cell? ⟨p, 0, none⟩ = some (.slice An N.length cn) := by
    have := p2.cell 0
    simp only [List.getElem?_cons_zero] at this
    exact this
  obtain ⟨ht, i, z, hii, hz0, he3, he4, he5, _⟩ := elm_node8
  go_region_law (refine step_append_lies _ rfl _ _ 49 rfl base 117 i z 4 32 ht hii hz0 he3 he4 he5 (by omega) (.slice An N.length cn) N.length (N.flatMap ndC) rfl r2 ⟨w1.heap.size, 0, none⟩ 1 1 [.int .i64 x1, .int .i64 x2, .int .i64 x3, .int .i64 x4] rfl rfl (fun j u hu => by rw [add_plain, Nat.zero_add]; exact z2.2 j u hu) (by intro u hu; simp at hu; rcases hu with rfl | rfl | rfl | rfl <;> rfl) (by omega) (by unfold maxLen; omega) (by omega) hb2 _ rfl ?_; intro gq c3 w3 r3 G3 hg3 hlt3; have p3 := own_row p2 r2 G3 b_ne.2.2.2.1; have d3 := p3.cell 0; have f3 := p3.free 0; simp only [List.getElem?_cons_zero] at d3)
  all_goals (
    obtain ⟨hB, hF⟩ := Bd.laid (x := ⟨x1, x2, x3, x4⟩) (w := w) G1.out hbs hlo hle htp (Below.step b1 b2) r2 q3 q4 g5 G3 hg3 r3
    have c4 : (w3.setCell ⟨p, 0, none⟩ (.slice (some ⟨gq, 0, none⟩) (N.length + 1) c3)).cell? ⟨p, 0, none⟩ = some (.slice (some ⟨gq, 0, none⟩) (N.length + 1) c3) := by
      have := (p3.put 0 (.slice (some ⟨gq, 0, none⟩) (N.length + 1) c3)).cell 0
      simpa using this
    obtain ⟨w5, e_w5⟩ : ∃ w', w3.setCell ⟨p, 0, none⟩ (.slice (some ⟨gq, 0, none⟩) (N.length + 1) c3) = w' := ⟨_, rfl⟩
    rw [e_w5] at hB hF c4 ⊢
    clear e_w5 d3 f3
    go_wp2_with fail
    go_ret
    refine ⟨?_, hB, hF⟩
    first | rfl | (congr 2; omega))
end Go.Proofs.Ytcfmgoilncninaa

namespace Go.Proofs.Ytcfmgoilncninaa
open Go.RowKit
set_option linter.unusedVariables false
set_option maxRecDepth 4000

theorem not_as {w : World} {base top p : Nat} {N : List Nd} {I O : List Pt} (h : Bd w base top p N I O) (hN : N.length ≤ 300000) (x : Int) :
    Calls Try.prog 92 #[.pointer (some ⟨p, 0, none⟩), .int .i64 x] w fun en w' => en = .returned (.int .i64 (N.length : Int)) ∧ Bd w' base top p (N ++ [⟨2, x, 0, 0⟩]) I O ∧ BF base p w w' := by
  go_enter Try.func92, Try.ntmps92
  go_wp2_with fail
  refine (lay_as h hN 2 x 0 0).mono ?_
  rintro en w1 ⟨rfl, h1, h2⟩
  go_wp2_with fail
  go_ret
  exact ⟨rfl, h1, h2⟩
theorem and_as {w : World} {base top p : Nat} {N : List Nd} {I O : List Pt} (h : Bd w base top p N I O) (hN : N.length ≤ 300000) (x y : Int) :
    Calls Try.prog 83 #[.pointer (some ⟨p, 0, none⟩), .int .i64 x, .int .i64 y] w fun en w' => en = .returned (.int .i64 (N.length : Int)) ∧ Bd w' base top p (N ++ [⟨3, x, y, 0⟩]) I O ∧ BF base p w w' := by
  go_enter Try.func83, Try.ntmps83
  go_wp2_with fail
  refine (lay_as h hN 3 x y 0).mono ?_
  rintro en w1 ⟨rfl, h1, h2⟩
  go_wp2_with fail
  go_ret
  exact ⟨rfl, h1, h2⟩
theorem or_as {w : World} {base top p : Nat} {N : List Nd} {I O : List Pt} (h : Bd w base top p N I O) (hN : N.length ≤ 300000) (x y : Int) :
    Calls Try.prog 138 #[.pointer (some ⟨p, 0, none⟩), .int .i64 x, .int .i64 y] w fun en w' => en = .returned (.int .i64 (N.length : Int)) ∧ Bd w' base top p (N ++ [⟨4, x, y, 0⟩]) I O ∧ BF base p w w' := by
  go_enter Try.func138, Try.ntmps138
  go_wp2_with fail
  refine (lay_as h hN 4 x y 0).mono ?_
  rintro en w1 ⟨rfl, h1, h2⟩
  go_wp2_with fail
  go_ret
  exact ⟨rfl, h1, h2⟩
theorem xor_as {w : World} {base top p : Nat} {N : List Nd} {I O : List Pt} (h : Bd w base top p N I O) (hN : N.length ≤ 300000) (x y : Int) :
    Calls Try.prog 115 #[.pointer (some ⟨p, 0, none⟩), .int .i64 x, .int .i64 y] w fun en w' => en = .returned (.int .i64 (N.length : Int)) ∧ Bd w' base top p (N ++ [⟨5, x, y, 0⟩]) I O ∧ BF base p w w' := by
  go_enter Try.func115, Try.ntmps115
  go_wp2_with fail
  refine (lay_as h hN 5 x y 0).mono ?_
  rintro en w1 ⟨rfl, h1, h2⟩
  go_wp2_with fail
  go_ret
  exact ⟨rfl, h1, h2⟩
theorem mux_as {w : World} {base top p : Nat} {N : List Nd} {I O : List Pt} (h : Bd w base top p N I O) (hN : N.length ≤ 300000) (x y c : Int) :
    Calls Try.prog 84 #[.pointer (some ⟨p, 0, none⟩), .int .i64 x, .int .i64 y, .int .i64 c] w fun en w' => en = .returned (.int .i64 (N.length : Int)) ∧ Bd w' base top p (N ++ [⟨6, x, y, c⟩]) I O ∧ BF base p w w' := by
  go_enter Try.func84, Try.ntmps84
  go_wp2_with fail
  refine (lay_as h hN 6 x y c).mono ?_
  rintro en w1 ⟨rfl, h1, h2⟩
  go_wp2_with fail
  go_ret
  exact ⟨rfl, h1, h2⟩
def tobit (v : Int) : Int := if v = 0 then 0 else 1
theorem tobit_as (v : Int) (w : World) : Calls Try.prog 135 #[.int .i64 v] w fun en w' => en = .returned (.int .i64 (tobit v)) ∧ w = w' := by
  unfold tobit
  by_cases h : v = 0
  · have e : (v == 0) = true := by simp [h]
    rw [if_pos h]
    clear h
    go_enter Try.func135, Try.ntmps135
    go_wp2_with fail
    go_ret
    exact ⟨rfl, rfl⟩
  · have e : (v == 0) = false := by simp [h]
    rw [if_neg h]
    clear h
    go_enter Try.func135, Try.ntmps135
    go_wp2_with fail
    go_ret
    exact ⟨rfl, rfl⟩
theorem Bit_as {w : World} {base top p : Nat} {N : List Nd} {I O : List Pt} (h : Bd w base top p N I O) (hN : N.length ≤ 300000) (v : Int) :
    Calls Try.prog 96 #[.pointer (some ⟨p, 0, none⟩), .int .i64 v] w fun en w' => en = .returned (.int .i64 (N.length : Int)) ∧ Bd w' base top p (N ++ [⟨0, tobit v, 0, 0⟩]) I O ∧ BF base p w w' := by
  go_enter Try.func96, Try.ntmps96
  go_wp2_with fail
  refine (tobit_as v _).mono ?_
  rintro en w0 ⟨rfl, rfl⟩
  go_wp2_with fail
  refine (lay_as h hN 0 (tobit v) 0 0).mono ?_
  rintro en w1 ⟨rfl, h1, h2⟩
  go_wp2_with fail
  go_ret
  exact ⟨rfl, h1, h2⟩
theorem reg_as {w : World} {base top p : Nat} {N : List Nd} {I O : List Pt} (h : Bd w base top p N I O) (hN : N.length ≤ 300000) (x v : Int) :
    Calls Try.prog 85 #[.pointer (some ⟨p, 0, none⟩), .int .i64 x, .int .i64 v] w fun en w' => en = .returned (.int .i64 (N.length : Int)) ∧ Bd w' base top p (N ++ [⟨7, x, tobit v, 0⟩]) I O ∧ BF base p w w' := by
  go_enter Try.func85, Try.ntmps85
  go_wp2_with fail
  refine (tobit_as v _).mono ?_
  rintro en w0 ⟨rfl, rfl⟩
  go_wp2_with fail
  refine (lay_as h hN 7 x (tobit v) 0).mono ?_
  rintro en w1 ⟨rfl, h1, h2⟩
  go_wp2_with fail
  go_ret
  exact ⟨rfl, h1, h2⟩
theorem new_b (w : World) : Calls Try.prog 27 #[] w fun en w' => ∃ p, en = .returned (.pointer (some ⟨p, 0, none⟩)) ∧ Bd w' w.heap.size w'.heap.size p [] [] [] ∧ Below w.heap.size w w' := by
  go_enter Try.func27, Try.ntmps27
  go_upto_region 2 with fail
  go_wp2_with fail
  go_ret
  refine ⟨w.heap.size, rfl, ⟨⟨.slice none 0 0, .slice none 0 0, .slice none 0 0, Own.made w 126 _, World.ownsRow_nil _ _ _ _, ⟨[], World.ownsRow_nil _ _ _ _, rfl, fun k r q hr => by simp at hr⟩, ⟨[], World.ownsRow_nil _ _ _ _, rfl, fun k r q hr => by simp at hr⟩, fun b e => by cases e⟩, Nat.le_refl _, by simp, Nat.le_refl _⟩, below_lit _ _⟩
theorem len_b {w : World} {base top p : Nat} {N : List Nd} {I O : List Pt} (h : Bd w base top p N I O) (hN : N.length ≤ 300000) : Calls Try.prog 88 #[.pointer (some ⟨p, 0, none⟩)] w fun en w' => en = .returned (.int .i64 (N.length : Int)) ∧ w = w' := by
  obtain ⟨vn, vi, vo, g1, g2, g3, g4, _⟩ := h.ex
  obtain ⟨An, cn, rfl, swn, hbn, _⟩ := row_at g2
  have c0 := g1.cell 0
  simp only [List.getElem?_cons_zero] at c0
  go_enter Try.func88, Try.ntmps88
  go_wp2_with fail
  go_ret
  exact ⟨rfl, rfl⟩
/-! rows of places: of integers, in a block of integers -/
theorem Grow.rwt {t : TypeId} {w : World} {base n c : Nat} {A : Option Addr} {vs : List Value} (h : Grow w base t (.slice A n c) vs) (hn : vs.length = n) : RwT t w A n vs := by
  subst hn
  obtain ⟨A', c', e, _, _, hr⟩ := Grow.at h rfl
  injection e with e1 e2 e3
  subst e1
  exact ⟨hr, h.tag⟩
/-- a word: a slice that reads as places, in a block of integers. -/
def Wo (w : World) (A : Option Addr) (n : Nat) (L : List Int) : Prop := RwT 3 w A n (ivs L)
theorem Wo.is {w : World} {A : Option Addr} {n : Nat} {L : List Int} (h : Wo w A n L) : Is w A n L := h.1.is
theorem Wo.tk {w w' : World} {A : Option Addr} {n : Nat} {L : List Int} (h : Wo w A n L) (hk : TK 3 w w') : Wo w' A n L := RwT.tk h hk
theorem Wo.on {w w' : World} {A : Option Addr} {n : Nat} {L : List Int} (h : Wo w A n L) (hb : Below w.heap.size w w') : Wo w' A n L := h.tk (TK.below hb)
theorem Wo.len {w : World} {A : Option Addr} {n : Nat} {L : List Int} (h : Wo w A n L) : L.length = n := by have := h.1.1; rwa [ivs_len7] at this
/-- BF through a row of the call's own. -/
theorem BF.push {base p b0 : Nat} {w w1 w2 : World} (h : BF base p w w1) (hb : Below b0 w1 w2) (hp : p < w.heap.size) (hw : w.heap.size ≤ b0) (hs : base ≤ b0) (hk : ∀ t, t ≠ 3 → TK t w1 w2) : BF base p w w2 := by
  refine ⟨h.bw.trans (hb.mono hs), fun t h1 h2 h3 => ?_, fun T T2 ht hd => ?_⟩
  · by_cases ht : t = 3
    · intro b cs f e
      exact (hb.block b (Nat.lt_of_lt_of_le (Array.getElem?_eq_some_iff.1 e).1 hw)).trans (h.tk t h1 h2 h3 b cs f e)
    · exact (h.tk t h1 h2 h3).trans (hk t ht)
  · obtain ⟨k1, k2⟩ := h.own T T2 ht hd
    exact ⟨fun c x y => ⟨(k1 c x y).1, fun k v hv => (k1 c x y).2 k v (by rw [← hv]; exact (World.cell?_of_block (hb.block p (Nat.lt_of_lt_of_le hp hw))).symm)⟩, fun c x y => (hb.block c (by omega)).trans (k2 c x y)⟩
theorem Bd.push {b0 base top p : Nat} {w1 w2 : World} {N : List Nd} {I O : List Pt} (h : Bd w1 base top p N I O) (hb : Below b0 w1 w2) (ht : top ≤ b0) (hk : ∀ t, t ≠ 3 → TK t w1 w2) : Bd w2 base top p N I O :=
  h.keep (hk _ b_ne.1.symm) (hk _ b_ne.2.1.symm) (hk _ b_ne.2.2.1.symm) (below_b hb ht) hb.size
end Go.Proofs.Ytcfmgoilncninaa

namespace Go.Proofs.Ytcfmgoilncninaa
open Go.RowKit
set_option linter.unusedVariables false
set_option maxRecDepth 4000

theorem Grow.ad {w : World} {base n c : Nat} {t : TypeId} {A : Option Addr} {vs : List Value} (h : Grow w base t (.slice A n c) vs) : AdOk (· < w.heap.size) A := fun b off e => by
  have hlt := h.lt b
  subst e
  exact (hlt rfl).2
/-- a copy of places lies in new blocks of integers. -/
theorem cloneW_as {A : Option Addr} {n c : Nat} {L : List Int} {w : World} (h : Is w A n L) (sw : Sw A n c) (hn : n ≤ 100000) :
    Calls Try.prog 94 #[.slice A n c] w fun en w' => ∃ A' c', en = .returned (.slice A' n c') ∧ Grow w' w.heap.size 3 (.slice A' n c') (ivs L) ∧ Wo w' A' n L ∧ Sw A' n c' ∧ AdOk (· < w'.heap.size) A' ∧ Below w.heap.size w w' := by
  refine (cloneI_as h sw hn).mono ?_
  rintro en w' ⟨v, rfl, hr, b⟩
  rw [← ivs_inC] at hr
  obtain ⟨A', c', rfl, sw', hlo, _⟩ := row_at hr
  have hl : (ivs L).length = n := by rw [ivs_len7]; exact h.1
  have hg : Grow w' w.heap.size 3 (.slice A' n c') (ivs L) := by unfold Grow; rw [hl]; exact hr
  exact ⟨A', c', rfl, hg, hg.rwt hl, sw', hg.ad, b⟩
theorem ptC_one (r : Rp) : ∀ u ∈ ptC r, u.oneCell' = true := by
  intro u hu
  simp [ptC] at hu
  rcases hu with rfl | rfl <;> rfl
/-- a port more. -/
theorem PG.app {w w3 : World} {base top top' : Nat} {v3 : Value} {L : List Pt} {q : Pt} {A : Option Addr} {m c : Nat} {R : List Rp} (h2 : R.length = L.length) (h3 : ∀ (k : Nat) (r : Rp) (q : Pt), R[k]? = some r → L[k]? = some q → r.name = q.name ∧ Sw r.A r.m r.c ∧ RwT 3 w r.A r.m (ivs q.bits) ∧ AdOk (· < top) r.A) (ht : top ≤ top') (hk : TK 3 w w3) (hx : Wo w3 A m q.bits) (sw : Sw A m c) (hA : AdOk (· < top') A) (hr : w3.ownsRow base 119 2 v3 (L.length + 1) (R.flatMap ptC ++ ptC ⟨q.name, A, m, c⟩)) : PG w3 base top' v3 (L ++ [q]) := by
  refine ⟨R ++ [⟨q.name, A, m, c⟩], ?_, by simp [h2], fun k r q' hr' hq' => ?_⟩
  · rw [List.length_append, List.flatMap_append]
    simpa using hr
  · by_cases hk' : k < L.length
    · rw [List.getElem?_append_left (by omega)] at hr' hq'
      obtain ⟨g1, g2, g3, g4⟩ := h3 k r q' hr' hq'
      exact ⟨g1, g2, g3.tk hk, fun b off e => Nat.lt_of_lt_of_le (g4 b off e) ht⟩
    · rw [List.getElem?_append_right (by omega)] at hr' hq'
      rw [h2] at hr'
      obtain ⟨j, hj⟩ : ∃ j, k - L.length = j := ⟨_, rfl⟩
      rw [hj] at hr' hq'
      cases j with
      | zero =>
        cases hr'
        cases hq'
        exact ⟨rfl, sw, hx, hA⟩
      | succ j => simp at hr'
theorem Bd.outed {w Y w3 : World} {base top p : Nat} {N : List Nd} {I O : List Pt} {vn vi vo : Value} {A1 : Option Addr} {g3 c3 n c1 : Nat} {X : List Int} {nm : ByteArray} {R : List Rp} (hbs : base ≤ w.heap.size) (hlo : base ≤ p) (hle : base ≤ top) (htp : top ≤ w.heap.size) (b : Below w.heap.size w Y) (hvw : Own w p 126 [vn, vi, vo]) (r2 : Y.ownsRow base 117 4 vn N.length (N.flatMap ndC)) (q3 : PG Y base top vi I) (h2 : R.length = O.length) (h3 : ∀ (k : Nat) (r : Rp) (q : Pt), R[k]? = some r → O[k]? = some q → r.name = q.name ∧ Sw r.A r.m r.c ∧ RwT 3 w r.A r.m (ivs q.bits) ∧ AdOk (· < top) r.A) (rX : Y.ownsRow base 119 2 vo O.length (R.flatMap ptC)) (hx : Wo Y A1 n X) (sw : Sw A1 n c1) (hA : AdOk (· < Y.heap.size) A1) (hio : ∀ b, vi.ownBlock = some b → vo.ownBlock ≠ some b) (hg3 : vo.ownBlock = some g3 ∨ g3 = Y.heap.size) (G3 : Y.grownBy w3 vo.ownBlock) (r3 : w3.ownsRow base 119 2 (.slice (some ⟨g3, 0, none⟩) (O.length + 1) c3) (O.length + 1) (R.flatMap ptC ++ ptC ⟨nm, A1, n, c1⟩)) :
    Bd (w3.setCell ⟨p, 2, none⟩ (.slice (some ⟨g3, 0, none⟩) (O.length + 1) c3)) base Y.heap.size p N I (O ++ [⟨nm, X⟩]) ∧ BF base p w (w3.setCell ⟨p, 2, none⟩ (.slice (some ⟨g3, 0, none⟩) (O.length + 1) c3)) := by
  have hv := hvw.below b hvw.lt
  have p3 := own_row hv rX G3 b_ne.2.2.2.2.1
  have p4 := p3.put 2 (.slice (some ⟨g3, 0, none⟩) (O.length + 1) c3)
  have G4 := grown_set w3 ⟨p, 2, none⟩ (.slice (some ⟨g3, 0, none⟩) (O.length + 1) c3)
  have k3 : ∀ t, t ≠ 119 → TK t Y w3 := fun t ht => TK.row rX G3 ht
  have k4 : ∀ t, t ≠ 126 → TK t w3 (w3.setCell ⟨p, 2, none⟩ (.slice (some ⟨g3, 0, none⟩) (O.length + 1) c3)) := fun t ht => TK.grown G4 p3 ht
  have hyt : top ≤ Y.heap.size := Nat.le_trans htp b.size
  have hpg := (PG.app (q := ⟨nm, X⟩) h2 h3 hyt ((TK.below b).trans (k3 _ b_ne.2.2.1)) (hx.tk (k3 _ b_ne.2.2.1)) sw hA r3).keep (k4 _ b_ne.2.2.2.2.1.symm) ((k4 _ b_ne.1).b _)
  have rn := row_tk (row_tk r2 (k3 _ b_ne.2.2.2.2.2)) (k4 _ b_ne.2.2.2.1.symm)
  have q3' : PG (w3.setCell ⟨p, 2, none⟩ (.slice (some ⟨g3, 0, none⟩) (O.length + 1) c3)) base Y.heap.size vi I := by
    obtain ⟨R', e1, e2, e3⟩ := q3
    have hrow := e1.kept G3 (by cases hvi : vi.ownBlock with | none => exact .inl rfl | some b => exact .inr fun e => hio b hvi e.symm)
    refine ⟨R', row_tk hrow (k4 _ b_ne.2.2.2.2.1.symm), e2, fun k r q hr hq => ?_⟩
    obtain ⟨f1, f2, f3, f4⟩ := e3 k r q hr hq
    exact ⟨f1, f2, (f3.tk (k3 _ b_ne.2.2.1)).tk (k4 _ b_ne.1), fun b off e => Nat.lt_of_lt_of_le (f4 b off e) hyt⟩
  have hne : ∀ b, vi.ownBlock = some b → (Value.slice (some ⟨g3, 0, none⟩) (O.length + 1) c3).ownBlock ≠ some b := by
    intro b hb e
    obtain rfl : g3 = b := by injection e
    obtain ⟨R', e1, e2, e3⟩ := q3
    rcases hg3 with h | h
    · exact hio _ hb h
    · have := (e1.lt _ hb).2
      omega
  refine ⟨⟨⟨vn, vi, .slice (some ⟨g3, 0, none⟩) (O.length + 1) c3, by simpa using p4, rn, q3', hpg, hne⟩, hlo, Nat.le_trans hle hyt, Nat.le_trans G3.size G4.size⟩, ⟨?_, fun t h1 h2 h3 => (TK.below b).trans ((k3 t h3).trans (k4 t h1)), ?_⟩⟩
  · exact ((b.mono hbs).grown G3 (Nat.le_trans hbs b.size) fun k hk => (rX.lt k hk).1).setCell hlo _
  · exact BF.set hvw b G3 (.inr (.inr rfl)) (u0 := vn) (u1 := vi) (u2 := .slice (some ⟨g3, 0, none⟩) (O.length + 1) c3) (by simpa using p4) (by intro u hu; simp at hu; rcases hu with rfl | rfl | rfl; exact .inr (.inl rfl); exact .inr (.inr (.inl rfl)); exact .inl rfl) hg3
theorem Bd.ined {w Y w3 : World} {base top p : Nat} {N : List Nd} {I O : List Pt} {vn vi vo : Value} {A1 : Option Addr} {g3 c3 n c1 : Nat} {X : List Int} {nm : ByteArray} {R : List Rp} (hbs : base ≤ w.heap.size) (hlo : base ≤ p) (hle : base ≤ top) (htp : top ≤ w.heap.size) (b : Below w.heap.size w Y) (hvw : Own w p 126 [vn, vi, vo]) (r2 : Y.ownsRow base 117 4 vn N.length (N.flatMap ndC)) (q3 : PG Y base top vo O) (h2 : R.length = I.length) (h3 : ∀ (k : Nat) (r : Rp) (q : Pt), R[k]? = some r → I[k]? = some q → r.name = q.name ∧ Sw r.A r.m r.c ∧ RwT 3 w r.A r.m (ivs q.bits) ∧ AdOk (· < top) r.A) (rX : Y.ownsRow base 119 2 vi I.length (R.flatMap ptC)) (hx : Wo Y A1 n X) (sw : Sw A1 n c1) (hA : AdOk (· < Y.heap.size) A1) (hio : ∀ b, vi.ownBlock = some b → vo.ownBlock ≠ some b) (hg3 : vi.ownBlock = some g3 ∨ g3 = Y.heap.size) (G3 : Y.grownBy w3 vi.ownBlock) (r3 : w3.ownsRow base 119 2 (.slice (some ⟨g3, 0, none⟩) (I.length + 1) c3) (I.length + 1) (R.flatMap ptC ++ ptC ⟨nm, A1, n, c1⟩)) :
    Bd (w3.setCell ⟨p, 1, none⟩ (.slice (some ⟨g3, 0, none⟩) (I.length + 1) c3)) base Y.heap.size p N (I ++ [⟨nm, X⟩]) O ∧ BF base p w (w3.setCell ⟨p, 1, none⟩ (.slice (some ⟨g3, 0, none⟩) (I.length + 1) c3)) := by
  have hv := hvw.below b hvw.lt
  have p3 := own_row hv rX G3 b_ne.2.2.2.2.1
  have p4 := p3.put 1 (.slice (some ⟨g3, 0, none⟩) (I.length + 1) c3)
  have G4 := grown_set w3 ⟨p, 1, none⟩ (.slice (some ⟨g3, 0, none⟩) (I.length + 1) c3)
  have k3 : ∀ t, t ≠ 119 → TK t Y w3 := fun t ht => TK.row rX G3 ht
  have k4 : ∀ t, t ≠ 126 → TK t w3 (w3.setCell ⟨p, 1, none⟩ (.slice (some ⟨g3, 0, none⟩) (I.length + 1) c3)) := fun t ht => TK.grown G4 p3 ht
  have hyt : top ≤ Y.heap.size := Nat.le_trans htp b.size
  have hpg := (PG.app (q := ⟨nm, X⟩) h2 h3 hyt ((TK.below b).trans (k3 _ b_ne.2.2.1)) (hx.tk (k3 _ b_ne.2.2.1)) sw hA r3).keep (k4 _ b_ne.2.2.2.2.1.symm) ((k4 _ b_ne.1).b _)
  have rn := row_tk (row_tk r2 (k3 _ b_ne.2.2.2.2.2)) (k4 _ b_ne.2.2.2.1.symm)
  have q3' : PG (w3.setCell ⟨p, 1, none⟩ (.slice (some ⟨g3, 0, none⟩) (I.length + 1) c3)) base Y.heap.size vo O := by
    obtain ⟨R', e1, e2, e3⟩ := q3
    have hrow := e1.kept G3 (by cases hvo : vo.ownBlock with | none => exact .inl rfl | some b => exact .inr fun e => hio b e.symm hvo)
    refine ⟨R', row_tk hrow (k4 _ b_ne.2.2.2.2.1.symm), e2, fun k r q hr hq => ?_⟩
    obtain ⟨f1, f2, f3, f4⟩ := e3 k r q hr hq
    exact ⟨f1, f2, (f3.tk (k3 _ b_ne.2.2.1)).tk (k4 _ b_ne.1), fun b off e => Nat.lt_of_lt_of_le (f4 b off e) hyt⟩
  have hne : ∀ b, (Value.slice (some ⟨g3, 0, none⟩) (I.length + 1) c3).ownBlock = some b → vo.ownBlock ≠ some b := by
    intro b e hb
    obtain rfl : g3 = b := by injection e
    obtain ⟨R', e1, e2, e3⟩ := q3
    rcases hg3 with h | h
    · exact hio _ h hb
    · have := (e1.lt _ hb).2
      omega
  refine ⟨⟨⟨vn, .slice (some ⟨g3, 0, none⟩) (I.length + 1) c3, vo, by simpa using p4, rn, hpg, q3', hne⟩, hlo, Nat.le_trans hle hyt, Nat.le_trans G3.size G4.size⟩, ⟨?_, fun t h1 h2 h3 => (TK.below b).trans ((k3 t h3).trans (k4 t h1)), ?_⟩⟩
  · exact ((b.mono hbs).grown G3 (Nat.le_trans hbs b.size) fun k hk => (rX.lt k hk).1).setCell hlo _
  · exact BF.set hvw b G3 (.inr (.inl rfl)) (u0 := vn) (u1 := .slice (some ⟨g3, 0, none⟩) (I.length + 1) c3) (u2 := vo) (by simpa using p4) (by intro u hu; simp at hu; rcases hu with rfl | rfl | rfl; exact .inr (.inl rfl); exact .inl rfl; exact .inr (.inr (.inr rfl))) hg3
theorem elm_port8 : Elm Try.prog 50 119 2 40 := elm_port
set_option maxHeartbeats 4000000 in
/-- OUT. -/
theorem out_as {w : World} {base top p : Nat} {N : List Nd} {I O : List Pt} (h : Bd w base top p N I O) (hO : O.length ≤ 1000) (nm : ByteArray) {A : Option Addr} {n c : Nat} {X : List Int} (hx : Is w A n X) (sw : Sw A n c) (hn : n ≤ 100000) :
    Calls Try.prog 21 #[.pointer (some ⟨p, 0, none⟩), .string nm, .slice A n c] w fun en w' => (∃ u, en = .returned u) ∧ ∃ top', top ≤ top' ∧ Bd w' base top' p N I (O ++ [⟨nm, X⟩]) ∧ BF base p w w' := by
  have hbs := h.bs
  have hlo := h.lo
  have hle := h.le
  have htp := h.tp
  obtain ⟨vn, vi, vo, g1, g2, g3, g4, g5⟩ := h.ex
  obtain ⟨R, g41, g42, g43⟩ := g4
  obtain ⟨Ao, co, rfl, swo, hbo, _⟩ := row_at g41
  have G41 := Lib.hid g41
  have HG := Lib.hid g1
  have HLO : O.length + 1 ≤ 1000000 := by omega
  go_enter Try.func21, Try.ntmps21
  go_upto_region 0 with fail
  have c2 := g1.cell 2
  simp only [List.getElem?_cons_succ, List.getElem?_cons_zero] at c2
  have BX : Hid (Below w.heap.size w w.drew) := Lib.hid ((Below.refl _ _).drew)
  obtain ⟨ht, i, z, hi, hz0, he3, he4, he5, _⟩ := elm_port8
  go_region_law (first
    | (go_simp
       go_at_call 94
       refine (cloneW_as (hx.on BX.out) sw hn).mono ?_
       rintro en w1 ⟨A1, c1, rfl, hg1, hw1, sw1, had1, b⟩
       replace BX := Lib.hid (Below.step BX.out b)
       have p1 := HG.out.below BX.out HG.out.lt
       have c21 := p1.cell 2
       have b2 : Below w1.heap.size w1 (w1.alloc (.cells #[.string nm, .slice A1 n c1] 119)) := below_lit _ _
       have z2 : Bx (w1.alloc (.cells #[.string nm, .slice A1 n c1] 119)) w1.heap.size [.string nm, .slice A1 n c1] := Bx.made_k w1 rfl #[.string nm, .slice A1 n c1] 119
       have p2 := p1.below b2 p1.lt
       have c22 := p2.cell 2
       have rX := row_on (row_on G41.out BX.out) b2
       have hbX : base ≤ (w1.alloc (.cells #[.string nm, .slice A1 n c1] 119)).heap.size := Nat.le_trans (Nat.le_trans hbs BX.out.size) b2.size
       simp only [List.getElem?_cons_succ, List.getElem?_cons_zero] at c21 c22
       clear b)
    | (go_loud (refine step_append_lies _ rfl _ _ 50 rfl base 119 i z 2 40 ht hi hz0 he3 he4 he5 (by omega) (.slice Ao O.length co) O.length (R.flatMap ptC) rfl rX ⟨w1.heap.size, 0, none⟩ 1 1 [.string nm, .slice A1 n c1] rfl rfl (fun j u hu => by rw [add_plain, Nat.zero_add]; exact z2.2 j u hu) (by intro u hu; simp at hu; rcases hu with rfl | rfl <;> rfl) (by omega) (by unfold maxLen; omega) (by omega) hbX _ rfl ?_)
       intro gq c3 w3 r3 G3 hg3 hlt3
       have p3 := own_row p2 rX G3 b_ne.2.2.2.2.1
       have d3 := p3.cell 2
       have f3 := p3.free 2
       simp only [List.getElem?_cons_succ, List.getElem?_cons_zero] at d3))
  all_goals (
    have BY := Below.step BX.out b2
    obtain ⟨hB, hF⟩ := Bd.outed (nm := nm) (X := X) hbs hlo hle htp BY HG.out (row_on g2 BY) (g3.keep (TK.below BY) (below_b BY htp)) g42 g43 rX (hw1.on b2) sw1 (fun b off e => Nat.lt_of_lt_of_le (had1 b off e) b2.size) g5 hg3 G3 r3
    go_wp2_with fail
    refine bodyPost_end (v := .tuple #[]) (by simp [results, Try.results21, go_sem]) rfl ?_
    exact ⟨⟨_, rfl⟩, _, Nat.le_trans htp BY.size, hB, hF⟩)
/-- so many places from a place on. -/
def plc (m n : Nat) : List Int := (List.range n).map fun k => ((m + k : Nat) : Int)
theorem plc_len (m n : Nat) : (plc m n).length = n := by simp [plc]
theorem plc_succ (m n : Nat) : ivs (plc m (n + 1)) = ivs (plc m n) ++ [.int .i64 ((m + n : Nat) : Int)] := by
  unfold plc ivs
  rw [List.range_succ]
  simp
def ins0 (n : Nat) : List Nd := List.replicate n ⟨1, 0, 0, 0⟩
theorem ins0_len (n : Nat) : (ins0 n).length = n := by simp [ins0]
theorem ins0_succ (n : Nat) : ins0 (n + 1) = ins0 n ++ [⟨1, 0, 0, 0⟩] := List.replicate_succ' ..
set_option maxHeartbeats 8000000 in
/-- IN. -/
theorem in_as {w : World} {base top p : Nat} {N : List Nd} {I O : List Pt} (h : Bd w base top p N I O) (hI : I.length ≤ 1000) (nm : ByteArray) (n : Nat) (hn : n ≤ 100000) (hN : N.length + n ≤ 200000) :
    Calls Try.prog 28 #[.pointer (some ⟨p, 0, none⟩), .string nm, .int .i64 (n : Int)] w fun en w' => ∃ A c, en = .returned (.slice A n c) ∧ Wo w' A n (plc N.length n) ∧ Sw A n c ∧ AdOk (w.heap.size ≤ ·) A ∧ ∃ top', top ≤ top' ∧ Bd w' base top' p (N ++ ins0 n) (I ++ [⟨nm, plc N.length n⟩]) O ∧ BF base p w w' := by
  have hbs := h.bs
  have htp := h.tp
  go_enter Try.func28, Try.ntmps28
  go_wp2_with fail
  go_loopw [7, 9] (fun xv iv wr => ∃ j : Nat, j ≤ n ∧ iv = .int .i64 j ∧ Hid (Grow wr w.heap.size 3 xv (ivs (plc N.length j))) ∧ Hid (Bd wr base top p (N ++ ins0 j) I O) ∧ Hid (BF base p w wr)) (fun _ iv _ => n - (intOf iv).toNat)
  case atStart => exact ⟨0, Nat.zero_le _, rfl, Lib.hid (World.ownsRow_nil w _ _ _), Lib.hid (by rw [show ins0 0 = [] from rfl, List.append_nil]; exact h), Lib.hid (BF.refl _ _ _)⟩
  case round =>
    obtain ⟨j, hj, rfl, HG, HB, HF⟩ := hrel
    have hl : (N ++ ins0 j).length = N.length + j := by rw [List.length_append, ins0_len]
    by_cases hlt : j < n
    · have i1 : (j : Int) < (n : Int) := by omega
      go_wp2_with fail
      refine (lay_as HB.out (by omega) 1 0 0 0).mono ?_
      rintro en w1 ⟨rfl, h1, f1⟩
      rw [hl]
      have hg1 : Grow w1 w.heap.size 3 _ (ivs (plc N.length j)) := row_tk HG.out f1.int
      have hsz : w.heap.size ≤ w1.heap.size := (HF.out.trans f1).bw.size
      have hll : (ivs (plc N.length j)).length + 1 ≤ 1000000 := by rw [ivs_len7, plc_len]; omega
      go_wp2_with (at_builtin; refine wpList_push2 _ rfl _ _ 26 rfl elm_int (by omega) w.heap.size _ _ rfl hg1 _ rfl rfl hll hsz ?_; intro v' w2 hr2 hb2 hk2)
      go_roundw
      case rel =>
        refine ⟨j + 1, by omega, by go_num, Lib.hid ?_, Lib.hid ?_, Lib.hid ((HF.out.trans f1).push hb2 h.pl (Nat.le_refl _) hbs hk2)⟩
        · rw [plc_succ]
          exact hr2
        · rw [ins0_succ, ← List.append_assoc]
          exact h1.push hb2 htp hk2
      case measure => simp [intOf]; omega
    · obtain rfl : j = n := by omega
      obtain ⟨w4, rfl⟩ : ∃ x, x = wr := ⟨_, rfl⟩
      obtain ⟨Ax, cx, rfl, swx, hax, hrx⟩ := Grow.at HG.out (n := j) (by rw [ivs_len7, plc_len])
      have hwo : Wo w4 Ax j (plc N.length j) := HG.out.rwt (by rw [ivs_len7, plc_len])
      have hbs4 := HB.out.bs
      have hlo := HB.out.lo
      have hle := HB.out.le
      have htp4 := HB.out.tp
      have hx := hwo.is
      obtain ⟨vn, vi, vo, g1, g2, g3, g4, g5⟩ := HB.out.ex
      obtain ⟨R, g41, g42, g43⟩ := g3
      obtain ⟨Ao, co, rfl, swo, hbo, _⟩ := row_at g41
      have G41 := Lib.hid g41
      have HG1 := Lib.hid g1
      have HLO : I.length + 1 ≤ 1000000 := by omega
      go_upto_region 6 with fail
      have c2 := g1.cell 1
      simp only [List.getElem?_cons_succ, List.getElem?_cons_zero] at c2
      have BX : Hid (Below w4.heap.size w4 w4.drew) := Lib.hid ((Below.refl _ _).drew)
      obtain ⟨ht, i, z, hi, hz0, he3, he4, he5, _⟩ := elm_port8
      go_region_law (first
        | (go_simp
           go_at_call 94
           refine (cloneW_as (hx.on BX.out) swx hn).mono ?_
           rintro en w1 ⟨A1, c1, rfl, hg1, hw1, sw1, had1, b⟩
           replace BX := Lib.hid (Below.step BX.out b)
           have p1 := HG1.out.below BX.out HG1.out.lt
           have c21 := p1.cell 1
           have b2 : Below w1.heap.size w1 (w1.alloc (.cells #[.string nm, .slice A1 j c1] 119)) := below_lit _ _
           have z2 : Bx (w1.alloc (.cells #[.string nm, .slice A1 j c1] 119)) w1.heap.size [.string nm, .slice A1 j c1] := Bx.made_k w1 rfl #[.string nm, .slice A1 j c1] 119
           have p2 := p1.below b2 p1.lt
           have c22 := p2.cell 1
           have rX := row_on (row_on G41.out BX.out) b2
           have hbX : base ≤ (w1.alloc (.cells #[.string nm, .slice A1 j c1] 119)).heap.size := Nat.le_trans (Nat.le_trans hbs4 BX.out.size) b2.size
           simp only [List.getElem?_cons_succ, List.getElem?_cons_zero] at c21 c22
           clear b)
        | (refine step_append_lies _ rfl _ _ 50 rfl base 119 i z 2 40 ht hi hz0 he3 he4 he5 (by omega) (.slice Ao I.length co) I.length (R.flatMap ptC) rfl rX ⟨w1.heap.size, 0, none⟩ 1 1 [.string nm, .slice A1 j c1] rfl rfl (fun j u hu => by rw [add_plain, Nat.zero_add]; exact z2.2 j u hu) (by intro u hu; simp at hu; rcases hu with rfl | rfl <;> rfl) (by omega) (by unfold maxLen; omega) (by omega) hbX _ rfl ?_
           intro gq c3 w3 r3 G3 hg3 hlt3
           have p3 := own_row p2 rX G3 b_ne.2.2.2.2.1
           have d3 := p3.cell 1
           have f3 := p3.free 1
           simp only [List.getElem?_cons_succ, List.getElem?_cons_zero] at d3))
      all_goals (
        have BY := Below.step BX.out b2
        obtain ⟨hB, hF⟩ := Bd.ined (nm := nm) (X := plc N.length j) hbs4 hlo hle htp4 BY HG1.out (row_on g2 BY) (g4.keep (TK.below BY) (below_b BY htp4)) g42 g43 rX (hw1.on b2) sw1 (fun b off e => Nat.lt_of_lt_of_le (had1 b off e) b2.size) g5 hg3 G3 r3
        go_wp2_with fail
        go_ret
        exact ⟨Ax, cx, rfl, hwo.tk hF.int, swx, fun b off e => (hax b off e).1, _, Nat.le_trans htp4 BY.size, hB, HF.out.trans hF⟩)
end Go.Proofs.Ytcfmgoilncninaa

namespace Go.Proofs.Ytcfmgoilncninaa
open Go.RowKit
set_option linter.unusedVariables false
set_option maxRecDepth 4000

/-- what stands behind so many registers. -/
def regO (x : Int) (m k : Nat) : Int := if k = 0 then x else ((m + (k - 1) : Nat) : Int)
def regL (x : Int) (m k : Nat) : List Nd := (List.range k).map fun j => ⟨7, regO x m j, 0, 0⟩
theorem regL_len (x : Int) (m k : Nat) : (regL x m k).length = k := by simp [regL]
theorem regL_succ (x : Int) (m k : Nat) : regL x m (k + 1) = regL x m k ++ [⟨7, regO x m k, 0, 0⟩] := by
  unfold regL
  rw [List.range_succ]
  simp
theorem regO_succ (x : Int) (m k : Nat) : regO x m (k + 1) = ((m + k : Nat) : Int) := by
  unfold regO
  rw [if_neg (by omega)]
  rfl
def regA (X : List Int) (m k : Nat) : Nat → List Nd
  | 0 => []
  | j + 1 => regA X m k j ++ regL (X.getD j 0) (m + j * k) k
theorem regA_len (X : List Int) (m k : Nat) : ∀ j, (regA X m k j).length = j * k
  | 0 => by simp [regA]
  | j + 1 => by
    unfold regA
    rw [List.length_append, regA_len X m k j, regL_len, Nat.succ_mul]
def regW (X : List Int) (m k j : Nat) : List Int := (List.range j).map fun i => regO (X.getD i 0) (m + i * k) k
theorem regW_len (X : List Int) (m k j : Nat) : (regW X m k j).length = j := by simp [regW]
theorem regW_set {X : List Int} {m k j n : Nat} (hn : X.length = n) (hj : j < n) : (regW X m k j ++ X.drop j).set j (regO (X.getD j 0) (m + j * k) k) = regW X m k (j + 1) ++ X.drop (j + 1) := by
  have hl := regW_len X m k j
  rw [List.set_append, if_neg (by omega), hl, Nat.sub_self, List.drop_eq_getElem_cons (by omega), List.set_cons_zero]
  unfold regW
  rw [List.range_succ]
  simp
theorem regW_at {X : List Int} {m k j n : Nat} (hn : X.length = n) (hj : j < n) : (regW X m k j ++ X.drop j)[j]? = some (X.getD j 0) := by
  rw [List.getElem?_append_right (by rw [regW_len]; exact Nat.le_refl _), regW_len, Nat.sub_self, List.getElem?_drop, Nat.add_zero]
  rw [List.getD_eq_getElem?_getD, List.getElem?_eq_getElem (by omega)]
  rfl
theorem bp_ne : (25 : TypeId) ≠ 126 ∧ (25 : TypeId) ≠ 117 ∧ (25 : TypeId) ≠ 119 ∧ (25 : TypeId) ≠ 3 := by decide
set_option maxHeartbeats 2000000 in
/-- one bit behind registers. -/
theorem regs1_as {w : World} {base top p s3 s5 k : Nat} {N : List Nd} {I O : List Pt} (h : Bd w base top p N I O) (o5 : Own w s5 3 [.int .i64 (k : Int)]) (o3 : Own w s3 25 [.pointer (some ⟨p, 0, none⟩)]) (x : Int) (hN : N.length + k ≤ 200000) :
    Calls Try.prog 101 #[.int .i64 x, .pointer (some ⟨s5, 0, none⟩), .pointer (some ⟨s3, 0, none⟩)] w fun en w' => en = .returned (.int .i64 (regO x N.length k)) ∧ Bd w' base top p (N ++ regL x N.length k) I O ∧ BF base p w w' := by
  have c5 := o5.cell 0
  simp only [List.getElem?_cons_zero] at c5
  have H3 := Lib.hid o3
  clear o3 o5
  go_enter Try.func101, Try.ntmps101
  go_wp2_with fail
  go_loopw [0, 6] (fun xv iv wr => ∃ j : Nat, j ≤ k ∧ iv = .int .i64 j ∧ xv = .int .i64 (regO x N.length j) ∧ Hid (Bd wr base top p (N ++ regL x N.length j) I O) ∧ Hid (BF base p w wr)) (fun _ iv _ => k - (intOf iv).toNat)
  case atStart => exact ⟨0, Nat.zero_le _, rfl, rfl, Lib.hid (by rw [show regL x N.length 0 = [] from rfl, List.append_nil]; exact h), Lib.hid (BF.refl _ _ _)⟩
  case round =>
    clear c5
    obtain ⟨j, hj, rfl, rfl, HB, HF⟩ := hrel
    have hl : (N ++ regL x N.length j).length = N.length + j := by rw [List.length_append, regL_len]
    by_cases hlt : j < k
    · have i1 : (j : Int) < (k : Int) := by omega
      have c3 := (own_tk H3.out (HF.out.tk _ bp_ne.1 bp_ne.2.1 bp_ne.2.2.1)).cell 0
      simp only [List.getElem?_cons_zero] at c3
      go_wp2_with fail
      refine (reg_as HB.out (by omega) (regO x N.length j) 0).mono ?_
      rintro en w1 ⟨rfl, h1, f1⟩
      rw [hl]
      go_wp2_with fail
      go_roundw
      case rel =>
        refine ⟨j + 1, by omega, by go_num, by rw [regO_succ]; congr 1, Lib.hid ?_, Lib.hid (HF.out.trans f1)⟩
        rw [regL_succ, ← List.append_assoc]
        exact h1
      case measure => simp [intOf]; omega
    · obtain rfl : j = k := by omega
      go_wp2_with fail
      go_ret
      exact ⟨rfl, HB.out, HF.out⟩
set_option maxHeartbeats 4000000 in
/-- turn, by registers. -/
theorem turnR_as {w : World} {base top p s3 s5 k : Nat} {N : List Nd} {I O : List Pt} (h : Bd w base top p N I O) (o5 : Own w s5 3 [.int .i64 (k : Int)]) (o3 : Own w s3 25 [.pointer (some ⟨p, 0, none⟩)]) {A : Option Addr} {n c : Nat} {X : List Int} (hx : Is w A n X) (sw : Sw A n c) (hn : n ≤ 100000) (hN : N.length + n * k + k ≤ 200000) :
    Calls Try.prog 91 #[.slice A n c, .func (.func 101) #[] #[.pointer (some ⟨s5, 0, none⟩), .pointer (some ⟨s3, 0, none⟩)]] w fun en w' => ∃ A' c', en = .returned (.slice A' n c') ∧ Wo w' A' n (regW X N.length k n) ∧ Sw A' n c' ∧ Bd w' base top p (N ++ regA X N.length k n) I O ∧ BF base p w w' := by
  have hbs := h.bs
  have htp := h.tp
  have HXL : Hid (X.length = n) := Lib.hid hx.1
  have H3 := Lib.hid o3
  have H5 := Lib.hid o5
  clear o3 o5
  go_enter Try.func91, Try.ntmps91
  go_wp2_with fail
  refine (cloneW_as hx sw hn).mono ?_
  rintro en w1 ⟨A1, c1, rfl, hg1, hw1, sw1, had1, b⟩
  have h1 := h.on b
  have F1 : BF base p w w1 := BF.of hbs h.pl b
  clear hw1 had1 hx b
  go_wp2_with fail
  go_loopw [10] (fun iv wr => ∃ j : Nat, j ≤ n ∧ iv = .int .i64 j ∧ Hid (Grow wr w.heap.size 3 (.slice A1 n c1) (ivs (regW X N.length k j ++ X.drop j))) ∧ Hid (Bd wr base top p (N ++ regA X N.length k j) I O) ∧ Hid (BF base p w wr)) (fun iv _ => n - (intOf iv).toNat)
  case atStart => exact ⟨0, Nat.zero_le _, rfl, Lib.hid hg1, Lib.hid (by rw [show regA X N.length k 0 = [] from rfl, List.append_nil]; exact h1), Lib.hid F1⟩
  case round =>
    clear hg1 h1 F1
    obtain ⟨j, hj, rfl, HG, HB, HF⟩ := hrel
    have hl : (N ++ regA X N.length k j).length = N.length + j * k := by rw [List.length_append, regA_len]
    have hll : (ivs (regW X N.length k j ++ X.drop j)).length = n := by
      rw [ivs_len7, List.length_append, regW_len, List.length_drop, HXL.out]
      omega
    by_cases hlt : j < n
    · have hjk : j * k + k ≤ n * k := by rw [← Nat.succ_mul]; exact Nat.mul_le_mul_right k hlt
      have hgr : wr.ownsRow w.heap.size 3 1 (.slice A1 n c1) n (ivs (regW X N.length k j ++ X.drop j)) := by have := HG.out; unfold Grow at this; rwa [hll] at this
      obtain ⟨gx, rfl⟩ : ∃ gx, A1 = some ⟨gx, 0, none⟩ := by
        rcases hgr.2 with ⟨_, hn0⟩ | ⟨g', cap, cur, e, _⟩
        · omega
        · injection e with e
          exact ⟨g', e⟩
      have hgx : w.heap.size ≤ gx := (hgr.lt gx rfl).1
      have cj := hgr.cellAt j (by omega)
      rw [ivs_at (regW_at HXL.out hlt)] at cj
      have i0 : (0 : Int) ≤ (j : Int) := by omega
      have i1 : (j : Int) < (n : Int) := by omega
      obtain ⟨y, hy⟩ : ∃ y, X.getD j 0 = y := ⟨_, rfl⟩
      rw [hy] at cj
      have HY := Lib.hid hy
      clear hy
      go_wp2_with fail
      refine (regs1_as HB.out (own_tk H5.out HF.out.int) (own_tk H3.out (HF.out.tk _ bp_ne.1 bp_ne.2.1 bp_ne.2.2.1)) y (by omega)).mono ?_
      rintro en w2 ⟨rfl, h2, f2⟩
      have hgr2 := row_tk hgr f2.int
      have cj2 := hgr2.cellAt j (by omega)
      rw [ivs_at (regW_at HXL.out hlt), HY.out] at cj2
      have fj2 := hgr2.frozenAt j
      obtain ⟨r, hr⟩ : ∃ r, regO y (N ++ regA X N.length k j).length k = r := ⟨_, rfl⟩
      rw [hr]
      obtain ⟨st, gst⟩ := hgr2.stored j (.int .i64 r)
      clear cj
      go_wp2_with fail
      obtain ⟨w3, e_w3⟩ : ∃ w', w2.setCell ⟨gx, j, none⟩ (.int .i64 r) = w' := ⟨_, rfl⟩
      rw [e_w3] at st gst
      have b3 : Below w.heap.size w2 w3 := e_w3 ▸ (Below.refl _ _).setCell hgx _
      have k3 : ∀ t, t ≠ 3 → TK t w2 w3 := fun t ht => TK.row hgr2 gst ht
      go_roundw
      case rel =>
        refine ⟨j + 1, by omega, by go_num, Lib.hid ?_, Lib.hid ?_, Lib.hid ?_⟩
        · rw [e_w3]
          unfold Grow
          have e : (ivs (regW X N.length k (j + 1) ++ X.drop (j + 1))).length = n := by
            rw [ivs_len7, List.length_append, regW_len, List.length_drop, HXL.out]
            omega
          rw [e, ← regW_set HXL.out hlt, ← ivs_set, HY.out, ← hl, hr]
          exact st
        · rw [e_w3]
          have := h2.push b3 htp k3
          rw [show regA X N.length k (j + 1) = regA X N.length k j ++ regL (X.getD j 0) (N.length + j * k) k from rfl, ← List.append_assoc, HY.out, ← hl]
          exact this
        · rw [e_w3]
          exact (HF.out.trans f2).push b3 h.pl (Nat.le_refl _) hbs k3
      case measure => simp [intOf]; omega
    · obtain rfl : j = n := by omega
      have hG := HG.out
      rw [List.drop_eq_nil_of_le (by rw [HXL.out]; exact Nat.le_refl _), List.append_nil] at hG
      go_wp2_with fail
      go_ret
      exact ⟨A1, c1, rfl, hG.rwt (by rw [ivs_len7, regW_len]), sw1, HB.out, HF.out⟩
set_option maxHeartbeats 2000000 in
/-- REGS. -/
theorem regs_as {w : World} {base top p k : Nat} {N : List Nd} {I O : List Pt} (h : Bd w base top p N I O) {A : Option Addr} {n c : Nat} {X : List Int} (hx : Is w A n X) (sw : Sw A n c) (hn : n ≤ 100000) (hN : N.length + n * k + k ≤ 200000) :
    Calls Try.prog 29 #[.pointer (some ⟨p, 0, none⟩), .slice A n c, .int .i64 (k : Int)] w fun en w' => ∃ A' c', en = .returned (.slice A' n c') ∧ Wo w' A' n (regW X N.length k n) ∧ Sw A' n c' ∧ Bd w' base top p (N ++ regA X N.length k n) I O ∧ BF base p w w' := by
  have hbs := h.bs
  go_enter Try.func29, Try.ntmps29
  go_upto_region 1 with fail
  obtain ⟨w1, e_w1⟩ : ∃ w', w.alloc (.cells #[.pointer (some ⟨p, 0, none⟩)] 25) = w' := ⟨_, rfl⟩
  have o3 : Own w1 w.heap.size 25 [.pointer (some ⟨p, 0, none⟩)] := e_w1 ▸ Own.made w 25 [.pointer (some ⟨p, 0, none⟩)]
  have b1 : Below w.heap.size w w1 := e_w1 ▸ below_lit _ _
  have hs1 : w1.heap.size = w.heap.size + 1 := e_w1 ▸ size_lit w _ rfl
  rw [e_w1]
  clear e_w1
  obtain ⟨s5, hs5⟩ : ∃ s5, w.heap.size + 1 = s5 := ⟨_, rfl⟩
  rw [hs5] at hs1 ⊢
  obtain ⟨w2, e_w2⟩ : ∃ w', w1.alloc (.cells #[.int .i64 (k : Int)] 3) = w' := ⟨_, rfl⟩
  have o5 : Own w2 s5 3 [.int .i64 (k : Int)] := by rw [← hs1]; exact e_w2 ▸ Own.made w1 3 [.int .i64 (k : Int)]
  have b2 : Below w1.heap.size w1 w2 := e_w2 ▸ below_lit _ _
  rw [e_w2]
  clear e_w2 hs1 hs5
  have BW := Below.step b1 b2
  have o32 := o3.below b2 o3.lt
  go_wp2_with fail
  refine (turnR_as (h.on BW) o5 o32 (hx.on BW) sw hn hN).mono ?_
  rintro en w3 ⟨A', c', rfl, h1, h2, h3, h4⟩
  go_wp2_with fail
  go_ret
  exact ⟨A', c', rfl, h1, h2, h3, (BF.of hbs h.pl BW).trans h4⟩
end Go.Proofs.Ytcfmgoilncninaa

namespace Go.Proofs.Ytcfmgoilncninaa
open Go.RowKit
set_option linter.unusedVariables false
set_option maxRecDepth 4000

def wordN (x n : Nat) : List Nd := (List.range n).map fun k => ⟨0, tobit ((x / 2 ^ k % 2 : Nat) : Int), 0, 0⟩
theorem wordN_len (x n : Nat) : (wordN x n).length = n := by simp [wordN]
theorem wordN_succ (x n : Nat) : wordN x (n + 1) = wordN x n ++ [⟨0, tobit ((x / 2 ^ n % 2 : Nat) : Int), 0, 0⟩] := by
  unfold wordN
  rw [List.range_succ]
  simp
set_option maxHeartbeats 4000000 in
/-- WORD. -/
theorem word_b {w : World} {base top p : Nat} {N : List Nd} {I O : List Pt} (h : Bd w base top p N I O) {A : Option Addr} {m c x : Nat} (hx : ∀ w', BF base p w w' → Arg w' A m c x) (n : Nat) (hn : n ≤ 100000) (hN : N.length + n ≤ 200000) :
    Calls Try.prog 20 #[.pointer (some ⟨p, 0, none⟩), .slice A m c, .int .i64 (n : Int)] w fun en w' => ∃ A' c', en = .returned (.slice A' n c') ∧ Wo w' A' n (plc N.length n) ∧ Sw A' n c' ∧ Bd w' base top p (N ++ wordN x n) I O ∧ BF base p w w' := by
  have hbs := h.bs
  have htp := h.tp
  have HX := Lib.hid hx
  clear hx
  go_enter Try.func20, Try.ntmps20
  go_wp2_with fail
  go_loopw [7, 10] (fun xv iv wr => ∃ j : Nat, j ≤ n ∧ iv = .int .i64 j ∧ Hid (Grow wr w.heap.size 3 xv (ivs (plc N.length j))) ∧ Hid (Bd wr base top p (N ++ wordN x j) I O) ∧ Hid (BF base p w wr)) (fun _ iv _ => n - (intOf iv).toNat)
  case atStart => exact ⟨0, Nat.zero_le _, rfl, Lib.hid (World.ownsRow_nil w _ _ _), Lib.hid (by rw [show wordN x 0 = [] from rfl, List.append_nil]; exact h), Lib.hid (BF.refl _ _ _)⟩
  case round =>
    obtain ⟨j, hj, rfl, HG, HB, HF⟩ := hrel
    have hl : (N ++ wordN x j).length = N.length + j := by rw [List.length_append, wordN_len]
    by_cases hlt : j < n
    · have i1 : (j : Int) < (n : Int) := by omega
      go_wp2_with fail
      refine (bit_any (HX.out _ HF.out) (j : Int) (by omega) (by omega)).mono ?_
      rintro en w0 ⟨rfl, rfl⟩
      rw [Int.toNat_natCast]
      obtain ⟨bv, hbv⟩ : ∃ bv : Int, ((x / 2 ^ j % 2 : Nat) : Int) = bv := ⟨_, rfl⟩
      rw [hbv]
      have HBV := Lib.hid hbv
      clear hbv
      go_wp2_with fail
      refine (Bit_as HB.out (by omega) bv).mono ?_
      rintro en w1 ⟨rfl, h1, f1⟩
      rw [hl]
      have hg1 : Grow w1 w.heap.size 3 _ (ivs (plc N.length j)) := row_tk HG.out f1.int
      have hsz : w.heap.size ≤ w1.heap.size := (HF.out.trans f1).bw.size
      have hll : (ivs (plc N.length j)).length + 1 ≤ 1000000 := by rw [ivs_len7, plc_len]; omega
      go_wp2_with (at_builtin; refine wpList_push2 _ rfl _ _ 26 rfl elm_int (by omega) w.heap.size _ _ rfl hg1 _ rfl rfl hll hsz ?_; intro v' w2 hr2 hb2 hk2)
      have F2 := (HF.out.trans f1).push hb2 h.pl (Nat.le_refl _) hbs hk2
      go_roundw
      case rel =>
        refine ⟨j + 1, by omega, by go_num, Lib.hid ?_, Lib.hid ?_, Lib.hid F2⟩
        · rw [plc_succ]
          exact hr2
        · rw [wordN_succ, ← List.append_assoc, HBV.out]
          exact h1.push hb2 htp hk2
      case measure => simp [intOf]; omega
    · obtain rfl : j = n := by omega
      obtain ⟨Ax, cx, rfl, swx, hax, hrx⟩ := Grow.at HG.out (n := j) (by rw [ivs_len7, plc_len])
      go_wp2_with fail
      go_ret
      exact ⟨Ax, cx, rfl, HG.out.rwt (by rw [ivs_len7, plc_len]), swx, HB.out, HF.out⟩
theorem elm_bits8 : Elm Try.prog 40 4 1 1 := by
  obtain ⟨i, h1, h2, h3, h4⟩ := Go.info_parts (P := Try.prog) (e := 4) (z := .bool false) (size := 1) (bytes := 1) (by kernel_rfl)
  refine ⟨Try.underlying40, i, _, h1, h2, h3, h4, rfl, fun u hu => ?_⟩
  have hu2 : u ∈ (.bool false : Value).cells.toList := hu
  simp [Value.cells] at hu2
  subst hu2
  rfl
/-! so many lowest bits -/
def lowL (bs : List Bool) (j : Nat) : List Bool := (List.range j).map fun i => bs.getD i false
theorem lowL_len (bs : List Bool) (j : Nat) : (lowL bs j).length = j := by simp [lowL]
theorem lowL_succ (bs : List Bool) (j : Nat) : lowL bs (j + 1) = lowL bs j ++ [bs.getD j false] := by
  unfold lowL
  rw [List.range_succ]
  simp
theorem lowL_at (bs : List Bool) {m j : Nat} (h : j < m) : (lowL bs m).getD j false = bs.getD j false := by
  unfold lowL
  rw [List.getD_eq_getElem?_getD, List.getElem?_map, List.getElem?_range h]
  rfl
theorem lowL_val (bs : List Bool) : ∀ m, bval (lowL bs m) = bval bs % 2 ^ m
  | 0 => by
    rw [Nat.pow_zero, Nat.mod_one]
    rfl
  | m + 1 => by
    rw [lowL_succ, bval_snoc, lowL_val bs m, lowL_len, ← bval_at, Nat.pow_succ, Nat.mod_mul]
theorem Grow.brc {w : World} {base g l m c : Nat} {bl : List Bool} (h : Grow w base 4 (.slice (some ⟨g, 0, none⟩) m c) (Bo bl)) (hm : bl.length = m) (hc : BCutAt bl l) (hl : l ≤ m) : BR w (some ⟨g, 0, none⟩) l c (bval bl) := by
  obtain ⟨A', c', e, hb, h1, h2⟩ := h.bits
  injection e with e1 e2 e3
  subst e1 e3
  obtain ⟨k1, k2⟩ := bcut_val (by omega) hc
  refine ⟨bl.take l, ⟨⟨by rw [Bo_len, List.length_take]; omega, fun i u hu => ?_⟩, fun h0 => hb.2 (by omega)⟩, by omega, h2, k1, k2⟩
  have hu' : (Bo bl)[i]? = some u := by
    unfold Bo at hu ⊢
    rw [List.getElem?_map, List.getElem?_take] at hu
    rw [List.getElem?_map]
    split at hu
    · exact hu
    · cases hu
  exact hb.1.2 i u hu'
set_option maxHeartbeats 4000000 in
/-- LOW, of any bits. -/
theorem rlow8_any {A : Option Addr} {n c x : Nat} {bs : List Bool} {w : World} (hbs : BS w A n bs) (hv : bval bs = x) (hn : n ≤ 1000000) (m : Nat) (hm : m ≤ 100000) :
    Calls Try.prog 23 #[.slice A n c, .int .i64 (m : Int)] w (BitsPost w (x % 2 ^ m)) := by
  have HV := Lib.hid hv
  have HBS := Lib.hid hbs
  clear hv hbs
  go_enter Try.func23, Try.ntmps23
  go_upto_region 2 with fail
  obtain ⟨w0, e_w0⟩ : ∃ w', w.alloc (.cells #[] 4) = w' := ⟨_, rfl⟩
  have b0 : Below w.heap.size w w0 := e_w0 ▸ below_lit _ _
  have hg0 : Grow w0 w.heap.size 4 (.slice (some ⟨w.heap.size, 0, none⟩) 0 0) (Bo (lowL bs 0)) := e_w0 ▸ Grow.made w _ (Nat.le_refl _)
  rw [e_w0]
  clear e_w0
  go_wp2_with fail
  go_loopw [5, 6, 7] (fun ov lv iv wr => ∃ j : Nat, j ≤ m ∧ iv = .int .i64 j ∧ lv = .int .i64 ((lastL (lowL bs m) j : Nat) : Int) ∧ (∃ g cap, ov = .slice (some ⟨g, 0, none⟩) j cap) ∧ Hid (Grow wr w.heap.size 4 ov (Bo (lowL bs j))) ∧ Hid (Below w.heap.size w wr)) (fun _ _ iv _ => m - (intOf iv).toNat)
  case atStart => exact ⟨0, Nat.zero_le _, rfl, rfl, ⟨_, _, rfl⟩, Lib.hid hg0, Lib.hid b0⟩
  case round =>
    clear hg0 b0
    obtain ⟨j, hj, rfl, rfl, ⟨g, cap, rfl⟩, HG, HB⟩ := hrel
    by_cases hlt : j < m
    · have i1 : (j : Int) < (m : Int) := by omega
      obtain ⟨b, hb⟩ : ∃ b, bs.getD j false = b := ⟨_, rfl⟩
      have HBB := Lib.hid hb
      clear hb
      go_wp2_with fail
      refine (rbit_any (HBS.out.on HB.out) (by omega) (j : Int) b (Lib.hid (by rw [bitAt_nat]; exact HBB.out))).mono ?_
      rintro en w1 ⟨rfl, rfl⟩
      have hg := HG.out
      have hsz := HB.out.size
      have hll : (Bo (lowL bs j)).length + 1 ≤ 1000000 := by rw [Bo_len, lowL_len]; omega
      go_wp2_with (at_builtin; refine wpList_push3 _ rfl _ _ 40 rfl elm_bits8 (by omega) w.heap.size _ _ rfl hg _ rfl rfl hll hsz ?_; intro g7 cap7 w7 hr7 hG7 hw7)
      have B7 : Below w.heap.size w w7 := HB.out.grown hG7 HB.out.size fun k hk => (hg.lt k hk).1
      have hr8 : Hid (Grow w7 w.heap.size 4 (.slice (some ⟨g7, 0, none⟩) ((Bo (lowL bs j)).length + 1) cap7) (Bo (lowL bs (j + 1)))) := Lib.hid (by
        have e : Bo (lowL bs (j + 1)) = Bo (lowL bs j) ++ [.bool b] := by rw [lowL_succ, HBB.out]; simp [Bo]
        rw [e]
        exact hr7)
      have HLA : Hid (lastL (lowL bs m) (j + 1) = if b then j + 1 else lastL (lowL bs m) j) := Lib.hid (by
        show (if (lowL bs m).getD j false then j + 1 else lastL (lowL bs m) j) = _
        rw [lowL_at bs hlt, HBB.out])
      clear hg hr7 hG7 hw7
      refine (rbit_any (HBS.out.on B7) (by omega) (j : Int) b (Lib.hid (by rw [bitAt_nat]; exact HBB.out))).mono ?_
      rintro en w8 ⟨rfl, rfl⟩
      cases b
      · go_wp2_with fail
        go_roundw
        case rel => exact ⟨j + 1, by omega, by go_num, by rw [HLA.out]; rfl, ⟨_, _, by rw [Bo_len, lowL_len]⟩, hr8, Lib.hid B7⟩
        case measure => simp [intOf]; omega
      · go_wp2_with fail
        go_roundw
        case rel => exact ⟨j + 1, by omega, by go_num, by rw [HLA.out]; rfl, ⟨_, _, by rw [Bo_len, lowL_len]⟩, hr8, Lib.hid B7⟩
        case measure => simp [intOf]; omega
    · obtain rfl : j = m := by omega
      have hcut : BCutAt (lowL bs j) (lastL (lowL bs j) j) := by have := lastL_is (lowL bs j); rwa [lowL_len] at this
      have hle := lastL_le (lowL bs j) j
      obtain ⟨l, hl⟩ : ∃ l, lastL (lowL bs j) j = l := ⟨_, rfl⟩
      rw [hl] at hcut hle ⊢
      have hbr := HG.out.brc (lowL_len bs j) hcut hle
      rw [lowL_val, HV.out] at hbr
      have hcap : j ≤ cap := by
        obtain ⟨_, _, e, _, h1, _⟩ := HG.out.bits
        injection e with _ e2 e3
        rw [Bo_len, lowL_len] at h1
        omega
      have k0 : (0 : Int) ≤ (l : Int) := by omega
      have k1 : (l : Int) ≤ (cap : Int) := by omega
      clear hl
      go_wp2_with fail
      go_ret
      exact ⟨_, _, _, rfl, hbr, HB.out⟩
/-- LOW. -/
theorem rlow8_as {A : Option Addr} {n c x : Nat} {w : World} (h : BR w A n c x) (hn : n ≤ 1000000) (m : Nat) (hm : m ≤ 100000) :
    Calls Try.prog 23 #[.slice A n c, .int .i64 (m : Int)] w (BitsPost w (x % 2 ^ m)) := by
  obtain ⟨bs, hbs, _, _, _, hv⟩ := h
  exact rlow8_any hbs hv hn m hm
end Go.Proofs.Ytcfmgoilncninaa

namespace Go.Proofs.Ytcfmgoilncninaa
open Go.RowKit
set_option linter.unusedVariables false
set_option maxRecDepth 4000

/-- each node uses nodes ahead of it. -/
def Bk (N : List Nd) : Prop := ∀ i x, N[i]? = some x → formedS ((i : Nat) : Int) x = true
theorem formed_le {x : Nd} {m : Nat} (h : formedS (m : Int) x = true) : ∀ d : Nat, formedS ((m + d : Nat) : Int) x = true
  | 0 => h
  | d + 1 => formed_more (formed_le h d)
theorem Bk.formed {N : List Nd} (h : Bk N) : N.all (formedS N.length) = true := by
  rw [List.all_eq_true]
  intro x hx
  obtain ⟨i, hi, e⟩ := List.getElem_of_mem hx
  have h1 := formed_le (h i x (by rw [List.getElem?_eq_getElem hi, e])) (N.length - i)
  rwa [show i + (N.length - i) = N.length by omega] at h1
theorem Bk.all {N : List Nd} (h : Bk N) : ∃ f, All N f := by
  have key : ∀ m, m ≤ N.length → ∃ f, All (N.take m) f := by
    intro m
    induction m with
    | zero => intro _; exact ⟨fun _ => 0, fun i hi => by simp at hi⟩
    | succ m ih =>
      intro hm
      obtain ⟨f, hf⟩ := ih (by omega)
      have e : N.take (m + 1) = N.take m ++ [N[m]'(by omega)] := by
        rw [List.take_add_one, List.getElem?_eq_getElem (by omega)]
        rfl
      rw [e]
      have hl : (N.take m).length = m := by rw [List.length_take]; omega
      exact ⟨_, all_app hf fun j hj => by
        rw [hl]
        exact need_lt (h m _ (List.getElem?_eq_getElem (by omega))) j hj⟩
  obtain ⟨f, hf⟩ := key N.length (Nat.le_refl _)
  rw [List.take_length] at hf
  exact ⟨f, hf⟩
theorem Bk.app {N M : List Nd} (h : Bk N) (k : ∀ i x, M[i]? = some x → formedS ((N.length + i : Nat) : Int) x = true) : Bk (N ++ M) := fun i x hx => by
  by_cases hi : i < N.length
  · rw [List.getElem?_append_left hi] at hx
    exact h i x hx
  · rw [List.getElem?_append_right (by omega)] at hx
    have := k _ x hx
    rwa [show N.length + (i - N.length) = i by omega] at this
def laterN (n k : Nat) : List Nd := ins0 n ++ regA (plc 0 n) n k n
theorem plc_at {m n i : Nat} (h : i < n) : (plc m n).getD i 0 = ((m + i : Nat) : Int) := by
  unfold plc
  rw [List.getD_eq_getElem?_getD, List.getElem?_map, List.getElem?_range h]
  rfl
theorem later_len (n k : Nat) : (laterN n k).length = n + n * k := by
  unfold laterN
  rw [List.length_append, ins0_len, regA_len]
theorem getD_left {α : Type} {A B : List α} {i : Nat} {d : α} (h : i < A.length) : (A ++ B).getD i d = A.getD i d := by
  rw [List.getD_eq_getElem?_getD, List.getElem?_append_left h, ← List.getD_eq_getElem?_getD]
theorem getD_right {α : Type} {A B : List α} {i : Nat} {d : α} : (A ++ B).getD (A.length + i) d = B.getD i d := by
  rw [List.getD_eq_getElem?_getD, List.getElem?_append_right (by omega), ← List.getD_eq_getElem?_getD]
  congr 1
  omega
theorem regL_at (x : Int) (m : Nat) {k j : Nat} (h : j < k) : (regL x m k).getD j nd0 = ⟨7, regO x m j, 0, 0⟩ := by
  unfold regL
  rw [List.getD_eq_getElem?_getD, List.getElem?_map, List.getElem?_range h]
  rfl
theorem regA_at (X : List Int) (m k : Nat) {i j : Nat} (hj : j < k) : ∀ n, i < n → (regA X m k n).getD (i * k + j) nd0 = ⟨7, regO (X.getD i 0) (m + i * k) j, 0, 0⟩
  | 0, h => by omega
  | n + 1, h => by
    unfold regA
    by_cases e : i = n
    · subst e
      rw [show i * k + j = (regA X m k i).length + j by rw [regA_len], getD_right, regL_at _ _ hj]
    · have hl : i * k + j < (regA X m k n).length := by
        rw [regA_len]
        have : (i + 1) * k ≤ n * k := Nat.mul_le_mul_right k (by omega)
        rw [Nat.succ_mul] at this
        omega
      rw [getD_left hl]
      exact regA_at X m k hj n (by omega)
theorem later_in {n k q : Nat} (h : q < n) : (laterN n k).getD q nd0 = ⟨1, 0, 0, 0⟩ := by
  unfold laterN
  rw [getD_left (by rw [ins0_len]; exact h)]
  unfold ins0
  rw [List.getD_eq_getElem?_getD, List.getElem?_replicate, if_pos h]
  rfl
theorem later_reg {n k i j : Nat} (hi : i < n) (hj : j < k) : (laterN n k).getD (n + (i * k + j)) nd0 = ⟨7, regO (i : Int) (n + i * k) j, 0, 0⟩ := by
  unfold laterN
  have := getD_right (A := ins0 n) (B := regA (plc 0 n) n k n) (i := i * k + j) (d := nd0)
  rw [ins0_len] at this
  rw [this, regA_at _ _ _ hj n hi, plc_at hi, Nat.zero_add]
theorem place_lt {n k i j : Nat} (hi : i < n) (hj : j < k) : n + (i * k + j) < n + n * k := by
  have : (i + 1) * k ≤ n * k := Nat.mul_le_mul_right k (by omega)
  rw [Nat.succ_mul] at this
  omega
/-- a register's bit in a cycle. -/
def wv (vs : List Nat) (t i j : Nat) : Int := if j + 1 ≤ t then bitI (vs.getD (t - 1 - j) 0) i else 0
structure Sta (n k : Nat) (vs : List Nat) (t : Nat) (st : List Int) : Prop where
  at_ : ∀ i j, i < n → j < k → st.getD (n + (i * k + j)) 0 = wv vs t i j
theorem sta_0 (n k : Nat) (vs : List Nat) : Sta n k vs 0 (startR (laterN n k)) := ⟨fun i j hi hj => by
  unfold startR
  rw [getD_map _ (by rw [later_len]; exact place_lt hi hj), later_reg hi hj]
  unfold wv
  rw [if_neg (by omega)]
  rfl⟩
theorem sol_in {n k : Nat} {st inn u : List Int} (h : Sol (laterN n k) st inn u) {q : Nat} (hq : q < n) : u.getD q 0 = inn.getD q 0 := by
  rw [h.2 q (by rw [later_len]; omega), later_in hq]
  rfl
theorem sol_reg {n k : Nat} {st inn u : List Int} (h : Sol (laterN n k) st inn u) {i j : Nat} (hi : i < n) (hj : j < k) : u.getD (n + (i * k + j)) 0 = st.getD (n + (i * k + j)) 0 := by
  rw [h.2 _ (by rw [later_len]; exact place_lt hi hj), later_reg hi hj]
  rfl
/-- what a register takes: the bit ahead. -/
theorem sol_take {n k : Nat} {vs : List Nat} {t : Nat} {st inn u : List Int} (h : Sol (laterN n k) st inn u) (hs : Sta n k vs t st) (hin : ∀ q < n, inn.getD q 0 = bitI (vs.getD t 0) q) {i j : Nat} (hi : i < n) (hj : j ≤ k) : atI u (regO (i : Int) (n + i * k) j) = wv vs (t + 1) i j := by
  unfold regO wv
  by_cases h0 : j = 0
  · subst h0
    rw [if_pos rfl, if_pos (by omega)]
    unfold atI
    rw [Int.toNat_natCast, sol_in h hi, hin i hi]
    rfl
  · rw [if_neg h0]
    unfold atI
    rw [Int.toNat_natCast, show n + i * k + (j - 1) = n + (i * k + (j - 1)) by omega, sol_reg h hi (by omega), hs.at_ i (j - 1) hi (by omega)]
    unfold wv
    by_cases ht : j ≤ t
    · rw [if_pos (by omega), if_pos (by omega)]
      congr 2
      omega
    · rw [if_neg (by omega), if_neg (by omega)]
theorem sta_next {n k : Nat} {vs : List Nat} {t : Nat} {st inn u : List Int} (h : Sol (laterN n k) st inn u) (hs : Sta n k vs t st) (hin : ∀ q < n, inn.getD q 0 = bitI (vs.getD t 0) q) : Sta n k vs (t + 1) (nextR (laterN n k) u) := ⟨fun i j hi hj => by
  unfold nextR
  rw [getD_map _ (by rw [later_len]; exact place_lt hi hj), later_reg hi hj]
  show (if (7 : Int) = 7 then atI u (regO (i : Int) (n + i * k) j) else 0) = _
  rw [if_pos rfl]
  exact sol_take h hs hin hi (by omega)⟩
/-- what goes out. -/
def outT (k : Nat) (vs : List Nat) (t : Nat) : Nat := if k ≤ t then vs.getD (t - k) 0 else 0
theorem wv_out (k : Nat) (vs : List Nat) (t i : Nat) : wv vs (t + 1) i k = bitI (outT k vs t) i := by
  unfold wv outT
  by_cases h : k ≤ t
  · rw [if_pos (by omega), if_pos h]
    rfl
  · rw [if_neg (by omega), if_neg h]
    unfold bitI
    simp
theorem num_out {n k : Nat} {vs : List Nat} {t : Nat} {st inn u : List Int} (h : Sol (laterN n k) st inn u) (hs : Sta n k vs t st) (hin : ∀ q < n, inn.getD q 0 = bitI (vs.getD t 0) q) : ∀ m, m ≤ n → numS (regW (plc 0 n) n k n) u m = outT k vs t % 2 ^ m
  | 0, _ => by
    rw [Nat.pow_zero, Nat.mod_one]
    rfl
  | m + 1, hm => by
    have hat : atI u ((regW (plc 0 n) n k n).getD m 0) = bitI (outT k vs t) m := by
      have e : (regW (plc 0 n) n k n).getD m 0 = regO (m : Int) (n + m * k) k := by
        unfold regW
        rw [List.getD_eq_getElem?_getD, List.getElem?_map, List.getElem?_range (by omega)]
        show regO ((plc 0 n).getD m 0) (n + m * k) k = _
        rw [plc_at (by omega), Nat.zero_add]
      rw [e, sol_take h hs hin (by omega) (Nat.le_refl _), wv_out]
    unfold numS
    rw [num_out h hs hin m (by omega), hat, Nat.pow_succ, Nat.mod_mul]
    unfold bitI
    have hb : outT k vs t / 2 ^ m % 2 = 0 ∨ outT k vs t / 2 ^ m % 2 = 1 := by omega
    rcases hb with e | e
    · rw [e]
      simp
    · rw [e]
      simp
/-- what comes in. -/
theorem in_at {n v : Nat} (nm : ByteArray) (hv : v < 2 ^ n) (m : Nat) (hm : n ≤ m) {q : Nat} (hq : q < n) : (insR [⟨nm, plc 0 n⟩] [v] (List.replicate m 0) 1).getD q 0 = bitI v q := by
  have hset : ∀ j, j ≤ n → (setR (plc 0 n) v (List.replicate m 0) j).getD q 0 = if q < j then bitI v q else 0 := by
    intro j
    induction j with
    | zero =>
      intro _
      unfold setR
      rw [if_neg (by omega), List.getD_eq_getElem?_getD, List.getElem?_replicate]
      split <;> rfl
    | succ j ih =>
      intro hj
      have ih := ih (by omega)
      unfold setR
      split
      · rename_i hb
        rw [getD_set, plc_at (by omega), Nat.zero_add, Int.toNat_natCast, setR_len, List.length_replicate]
        by_cases e : q = j
        · subst e
          rw [if_pos ⟨rfl, by omega⟩, if_pos (by omega), hb]
        · rw [if_neg (fun h => e h.1), ih]
          by_cases h : q < j
          · rw [if_pos h, if_pos (by omega)]
          · rw [if_neg h, if_neg (by omega)]
      · rename_i hb
        rw [ih]
        by_cases h : q < j
        · rw [if_pos h, if_pos (by omega)]
        · rw [if_neg h]
          by_cases e : q = j
          · subst e
            rw [if_pos (by omega)]
            rcases bitI_01 v q with e | e
            · exact e.symm
            · exact absurd e hb
          · rw [if_neg (by omega)]
  show (setR (plc 0 n) v (List.replicate m 0) (blen v)).getD q 0 = _
  have hbl : blen v ≤ n := (blen_le v n).2 hv
  rw [hset _ hbl]
  by_cases h : q < blen v
  · rw [if_pos h]
  · rw [if_neg h]
    have : v < 2 ^ q := (blen_le v q).1 (by omega)
    unfold bitI
    rw [Nat.div_eq_of_lt this]
    rfl
theorem later_bk (n k : Nat) : Bk (laterN n k) := by
  intro i x hx
  have hi : i < n + n * k := by rw [← later_len]; exact (List.getElem?_eq_some_iff.1 hx).1
  have e := getD_of (d := nd0) hx
  by_cases hin : i < n
  · rw [later_in hin] at e
    subst e
    rfl
  · obtain ⟨q, hq⟩ : ∃ q, i = n + q := ⟨i - n, by omega⟩
    subst hq
    have hk : 0 < k := by
      rcases Nat.eq_zero_or_pos k with h | h
      · subst h; omega
      · exact h
    obtain ⟨a, r, rfl, ha, hr⟩ : ∃ a r, q = a * k + r ∧ a < n ∧ r < k :=
      ⟨q / k, q % k, by rw [Nat.mul_comm]; exact (Nat.div_add_mod q k).symm, (Nat.div_lt_iff_lt_mul hk).2 (by omega), Nat.mod_lt q hk⟩
    rw [later_reg ha hr] at e
    subst e
    have h1 : 0 ≤ regO (a : Int) (n + a * k) r ∧ regO (a : Int) (n + a * k) r < ((n + (a * k + r) : Nat) : Int) := by
      have : a ≤ a * k := Nat.le_mul_of_pos_right a hk
      unfold regO
      split <;> omega
    generalize regO (a : Int) (n + a * k) r = y at h1
    generalize n + (a * k + r) = z at h1
    have hp : placeS (z : Int) y = true := by
      unfold placeS
      simp [h1.1, h1.2]
    show (true && (sameN ⟨7, y, 0, 0⟩ (bareS ⟨7, y, 0, 0⟩) && (([y] : List Int).all (placeS z) && true))) = true
    unfold sameN bareS
    simp [hp]
theorem sta_all {n k : Nat} {nm : ByteArray} {vs : List Nat} {L : List Nat} (ho : Odr (laterN n k) L) (hv : ∀ v ∈ vs, v < 2 ^ n) : ∀ t, t ≤ vs.length → Sta n k vs t (rst (laterN n k) [⟨nm, plc 0 n⟩] (nI L) (vs.map fun v => [v]) t)
  | 0, _ => sta_0 n k vs
  | t + 1, ht => by
    have hvt : vs.getD t 0 < 2 ^ n := by
      rw [List.getD_eq_getElem?_getD, List.getElem?_eq_getElem (by omega)]
      exact hv _ (List.getElem_mem _)
    have hx : (vs.map fun v => [v]).getD t [] = [vs.getD t 0] := by
      rw [List.getD_eq_getElem?_getD, List.getElem?_map, List.getD_eq_getElem?_getD, List.getElem?_eq_getElem (by omega)]
      rfl
    have ih := sta_all (nm := nm) ho hv t (by omega)
    unfold rst
    rw [hx]
    refine sta_next (odr_sol ho (later_bk n k).formed _ _) ih fun q hq => ?_
    exact in_at nm hvt _ (by rw [later_len]; omega) hq
/-- WHAT THE NET TELLS: what came in so many cycles ahead. -/
theorem later_run {n k : Nat} {nm nm2 : ByteArray} {vs : List Nat} {L : List Nat} (ho : Odr (laterN n k) L) (hv : ∀ v ∈ vs, v < 2 ^ n) : rrunX (laterN n k) [⟨nm, plc 0 n⟩] [⟨nm2, regW (plc 0 n) n k n⟩] (nI L) (vs.map fun v => [v]) = ((List.range vs.length).map fun t => [outT k vs t], 0) := by
  unfold rrunX
  have hfit : (vs.map fun v => [v]).all (fitsS [⟨nm, plc 0 n⟩]) = true := by
    rw [List.all_eq_true]
    intro xs hxs
    obtain ⟨v, hvm, rfl⟩ := List.mem_map.1 hxs
    unfold fitsS fitAt
    have hb : blen v ≤ n := (blen_le v n).2 (hv v hvm)
    have e : List.range ([(⟨nm, plc 0 n⟩ : Pt)].length) = [0] := rfl
    rw [e]
    simp [plc_len, hb]
  rw [if_pos hfit, List.length_map]
  congr 1
  refine List.map_congr_left fun t ht => ?_
  have ht := List.mem_range.1 ht
  have hvt : vs.getD t 0 < 2 ^ n := by
    rw [List.getD_eq_getElem?_getD, List.getElem?_eq_getElem (by omega)]
    exact hv _ (List.getElem_mem _)
  have hx : (vs.map fun v => [v]).getD t [] = [vs.getD t 0] := by
    rw [List.getD_eq_getElem?_getD, List.getElem?_map, List.getD_eq_getElem?_getD, List.getElem?_eq_getElem (by omega)]
    rfl
  unfold rtold
  rw [hx]
  have ih := sta_all (nm := nm) ho hv t (by omega)
  have hs := odr_sol ho (later_bk n k).formed (rst (laterN n k) [⟨nm, plc 0 n⟩] (nI L) (vs.map fun v => [v]) t) (insR [⟨nm, plc 0 n⟩] [vs.getD t 0] (List.replicate (laterN n k).length 0) [(⟨nm, plc 0 n⟩ : Pt)].length)
  have hn := num_out hs ih (fun q hq => in_at nm hvt _ (by rw [later_len]; omega) hq) n (Nat.le_refl _)
  have hlt : outT k vs t < 2 ^ n := by
    unfold outT
    split
    · rw [List.getD_eq_getElem?_getD, List.getElem?_eq_getElem (by omega)]
      exact hv _ (List.getElem_mem _)
    · exact Nat.two_pow_pos n
  rw [Nat.mod_eq_of_lt hlt] at hn
  show [numS (regW (plc 0 n) n k n) _ (regW (plc 0 n) n k n).length] = _
  rw [regW_len]
  exact congrArg (fun x => [x]) hn
end Go.Proofs.Ytcfmgoilncninaa

namespace Go.Proofs.Ytcfmgoilncninaa.LexS
open Go Go.RowKit
set_option linter.unusedVariables false
set_option maxRecDepth 4000

/-- A world in which all that stood in w0 is as it was. -/
structure Wd (sx : Nat) (w0 : World) where
  w : World
  below : w0.grownBy w (some sx)
instance (sx : Nat) (w0 : World) : Nonempty (Wd sx w0) := ⟨⟨w0, Gb.refl _ _⟩⟩
def Rb (sx : Nat) (w0 w : World) : Prop := ∃ s : Wd sx w0, w = s.w
theorem Rb.of {sx : Nat} {w0 w : World} (h : w0.grownBy w (some sx)) : Rb sx w0 w := ⟨⟨w, h⟩, rfl⟩
theorem Rb.bel {sx : Nat} {w0 w : World} (h : Rb sx w0 w) : w0.grownBy w (some sx) := by
  obtain ⟨s, rfl⟩ := h
  exact s.below
theorem Rb.refl {sx : Nat} (w : World) : Rb sx w w := Rb.of (Gb.refl _ _)
theorem Rb.trans {sx : Nat} {a b c : World} (h : Rb sx a b) (k : Rb sx b c) : Rb sx a c := Rb.of (Gb.trans h.bel k.bel)

section
variable {sx : Nat} {P : Program} {ops : Array Oper} {md : Region.Mode} {Q : Exit → Act → World → Prop}

/-- An operation runs before or behind another one's write of its slot alike. -/
theorem op_past {Y : Act → Prop} {j : Nat} {oj : Oper} {d : Option Nat} {v : Value} (hj : ops[j]? = some oj) (hs : ∀ cs b, oj.op ≠ .select cs b)
    (h1 : ∀ e, d = some e → e ∉ oj.looksAt ops) (h2 : ∀ e, d = some e → oj.dst ≠ some e)
    (keep : ∀ (a : Act), Y a → ∀ u, Y (a.put oj.dst u)) (keepD : ∀ (a : Act), Y a → ∀ x, Y { a with defers := x :: a.defers })
    (hQ : ∀ c a w, Q (.panic c) (a.put d v) w → Q (.panic c) a w) {K : Act → World → Prop} {a : Act} {w : World} (hy : Y a)
    (h : wpOp P ops Q j K (a.put d v) w) : wpOp P ops Q j (fun a' w' => Y a' ∧ K (a'.put d v) w') a w := by
  have fwd : ∀ (b : Act) u, Y b → K ((b.put d v).put oj.dst u) = K ((b.put oj.dst u).put d v) := fun b u _ => by rw [Act.put_comm b v u h2]
  unfold wpOp at h ⊢
  simp only [hj] at h ⊢
  rw [wanted_put oj a d v h1] at h
  cases hw : Region.wanted oj (yielded ops a.tmps)
  · rw [hw, if_neg (by decide)] at h
    rw [if_neg (by decide)]
    exact ⟨keep a hy _, by rw [← fwd a _ hy]; exact h⟩
  · rw [hw, if_pos rfl] at h
    rw [if_pos rfl]
    rcases h with h | ⟨h, hl⟩
    · left
      unfold Oper.wp at h ⊢
      rw [execOp_put oj hs a d v h1] at h
      generalize (execOp a.eval oj).run P w = r at h ⊢
      rcases r with ⟨n, w'⟩ | ⟨x, w'⟩
      · cases n <;> simp only [Oper.upon] at h ⊢
        case value u => exact ⟨keep a hy u, by rw [← fwd a u hy]; exact h⟩
        case skip => exact ⟨keep a hy _, by rw [← fwd a _ hy]; exact h⟩
        case defer x =>
          refine ⟨keep _ (keepD a hy x) _, ?_⟩
          rw [← fwd _ _ (keepD a hy x), ← Act.put_defers]
          exact h
        case enter f args =>
          refine Calls.mono h fun e w'' he => ?_
          rcases e with u | c | _
          · exact ⟨keep a hy u, by rw [← fwd a u hy]; exact he⟩
          · exact hQ _ _ _ he
          · exact he
        case row row args => exact Rows.mono h fun u w'' he => ⟨keep a hy u, by rw [← fwd a u hy]; exact he⟩
      · cases x <;> simp only [Oper.upon] at h ⊢
        case panic u => exact hQ _ _ _ h
    · right
      refine ⟨?_, hl⟩
      unfold Oper.asks at h ⊢
      rw [execOp_put oj hs a d v h1] at h
      exact h

/-- Whichever order is picked, from every world in which what stands is as it is: what stands behind each operation holds again of every such world. -/
def anyR (sx : Nat) (P : Program) (md : Region.Mode) (ops : Array Oper) (Q : Exit → Act → World → Prop) : Nat → Array Bool → Act → World → Prop
  | 0, listed, a, w => Region.ready md ops listed = [] ∧ Q .normal a w
  | n + 1, listed, a, w => (Region.ready md ops listed = [] → Q .normal a w) ∧
      ∀ i ∈ Region.ready md ops listed, wpOp P ops Q i (fun a' w' => Rb sx w w' ∧ anyR sx P md ops Q n (listed.setIfInBounds i true) a' w') a w
theorem any_of_anyR : ∀ (n : Nat) (listed : Array Bool) (a : Act) (w : World), anyR sx P md ops Q n listed a w → wpAny P md ops Q n listed a w
  | 0, _, _, _, h => h
  | n + 1, _, _, w, h => ⟨h.1, fun i hi => wpOp_mono (fun a' w' h' => any_of_anyR n _ a' w' h'.2) (h.2 i hi)⟩
theorem yields_on {w w' : World} {o : Oper} {v : Value} {a : Act} (h : YieldsIf P ops (Rb sx w) o v a) (k : Rb sx w w') : YieldsIf P ops (Rb sx w') o v a :=
  h.imp (fun ⟨h1, h2⟩ => ⟨h1, fun w1 k1 => h2 w1 (k.trans k1)⟩) id

theorem anyR_first {i : Nat} {oi : Oper} {v : Value} (hi : ops[i]? = some oi) (hsel : ∀ (j : Nat) (o : Oper) cs b, ops[j]? = some o → o.op ≠ .select cs b)
    (hQ : ∀ d v c a w, Q (.panic c) (a.put d v) w → Q (.panic c) a w) : ∀ (n : Nat) (listed : Array Bool) (a : Act) (w : World),
      (∀ j oj, ops[j]? = some oj → j ≠ i → listed.getD j true = false → (∀ e ∈ oj.after, Region.binds md e = true → e.on ≠ i) → oi.apart ops oj = true) →
      i ∈ Region.ready md ops listed → YieldsIf P ops (Rb sx w) oi v a →
      anyR sx P md ops Q n (listed.setIfInBounds i true) (a.put oi.dst v) w → anyR sx P md ops Q (n + 1) listed a w := by
  intro n
  induction n with
  | zero =>
    intro listed a w hfree hr hy H
    refine ⟨fun h => absurd hr (by rw [h]; exact List.not_mem_nil), fun j hj => ?_⟩
    by_cases e : j = i
    · subst e
      exact hy.wpOp hi (Rb.refl w) ⟨Rb.refl w, H⟩
    · have := ready_mono hj e
      rw [H.1] at this
      cases this
  | succ n ih =>
    intro listed a w hfree hr hy H
    refine ⟨fun h => absurd hr (by rw [h]; exact List.not_mem_nil), fun j hj => ?_⟩
    by_cases e : j = i
    · subst e
      exact hy.wpOp hi (Rb.refl w) ⟨Rb.refl w, H⟩
    · have h1 := H.2 j (ready_mono hj e)
      obtain ⟨hjun, oj, hoj, hall⟩ := mem_ready.1 hj
      have hiun := (mem_ready.1 hr).1
      have hnot : ∀ x ∈ oj.after, Region.binds md x = true → x.on ≠ i := fun x hx hb hxi => by
        have h2 := hall x hx hb
        rw [hxi] at h2
        by_cases hlt : i < listed.size
        · simp [hlt] at hiun h2; rw [hiun] at h2; cases h2
        · simp [Array.getElem?_eq_none (Nat.le_of_not_lt hlt)] at h2
      obtain ⟨g1, g2, g3⟩ := Oper.apart_spec (hfree j oj hoj e hjun hnot)
      have h2 := op_past (Y := YieldsIf P ops (Rb sx w) oi v) hoj (fun cs b => hsel j oj cs b hoj) g1 g2
        (fun b hb u => hb.of_same (execOp_put oi (fun cs b => hsel i oi cs b hi) b oj.dst u g3) (wanted_put oi b oj.dst u g3)) (fun b hb x => hb.of_same rfl rfl) (hQ oi.dst v) hy h1
      refine wpOp_mono (fun a' w' ⟨y, k, h3⟩ => ⟨k, ih (listed.setIfInBounds j true) a' w' (fun l ol hl hli hun hno => ?_) (ready_mono hr (Ne.symm e)) (yields_on y k) ?_⟩) h2
      · refine hfree l ol hl hli ?_ hno
        by_cases hjl : j = l
        · subst hjl; exact hjun
        · rw [Go.getD_set_ne true hjl] at hun; exact hun
      · rw [Array.setIfInBounds_comm _ _ e]
        exact h3

/-- operations that only read: what they yield is a value, in the world that they got. -/
def plainOp (o : Oper) : Bool := match o.op with
  | .move _ | .assign _ | .pick .. | .build .. | .load .. | .binOp .. | .unOp .. | .convert .. | .fieldAddr .. | .field .. | .indexAddr .. | .index .. | .extract .. | .nilCheck .. => true
  | _ => false
theorem value_of_v {s : Sem Value} {w w' : World} {n : Next} (h : (do pure (Next.value (← s)) : Sem Next).run P w = .ok n w') : ∃ u, n = .value u := by
  rw [Sem.run_bind] at h
  generalize s.run P w = r at h
  rcases r with ⟨u, w2⟩ | ⟨x, w2⟩
  · simp only [Result.andThen_ok, Sem.run_pure] at h
    cases h
    exact ⟨u, rfl⟩
  · cases h
theorem plain_value {ρ : Operand → Value} {o : Oper} {w w' : World} {n : Next} (hp : plainOp o = true) (h : (execOp ρ o).run P w = .ok n w') : ∃ u, n = .value u := by
  unfold plainOp at hp
  unfold execOp at h
  split at hp
  all_goals first | cases hp | skip
  all_goals (rename_i e; rw [e] at h; first | exact value_of_v h | skip)
  · simp only [Sem.run_pure] at h; cases h; exact ⟨_, rfl⟩
  · simp only [Sem.run_pure] at h; cases h; exact ⟨_, rfl⟩
  · rename_i c x y
    rw [Sem.run_bind] at h
    generalize (asBool (ρ c)).run P w = r at h
    rcases r with ⟨u, w2⟩ | ⟨x, w2⟩
    · simp only [Result.andThen_ok, Sem.run_pure] at h; cases h; exact ⟨_, rfl⟩
    · cases h
  · dsimp only at h
    split at h
    · cases h
    · cases h
    · cases h
    · split at h
      · cases h
      · rw [Sem.run_bind] at h
        generalize Sem.run P _ w = r at h
        rcases r with ⟨u, w2⟩ | ⟨x, w2⟩
        · simp only [Result.andThen_ok] at h
          rw [Sem.run_bind] at h
          generalize Sem.run P _ w2 = r at h
          rcases r with ⟨u, w3⟩ | ⟨x, w3⟩
          · simp only [Result.andThen_ok] at h
            split at h
            · cases h
            · cases h; exact ⟨_, rfl⟩
          · cases h
        · cases h
      · cases h; exact ⟨_, rfl⟩
    · cases h; exact ⟨_, rfl⟩

/-- those of D have come up, of n. -/
def lst (n : Nat) (D : List Nat) : Array Bool := ((List.range n).map fun i => D.contains i).toArray
theorem lst_getD (n : Nat) (D : List Nat) (j : Nat) (d : Bool) : (lst n D).getD j d = if j < n then D.contains j else d := by
  unfold lst
  by_cases h : j < n
  · rw [if_pos h]; simp [h]
  · rw [if_neg h]; simp [Nat.le_of_not_lt h]
theorem lst_nil (n : Nat) : Array.replicate n false = lst n [] := by
  apply Array.ext
  · simp [lst]
  · intro i h1 h2
    simp [lst]
theorem lst_cons (n k : Nat) (D : List Nat) : (lst n D).setIfInBounds k true = lst n (k :: D) := by
  apply Array.ext
  · simp [lst]
  · intro i h1 h2
    have hs : i < (lst n D).size := by simpa using h1
    rw [Array.getElem_setIfInBounds hs]
    by_cases e : k = i
    · subst e; simp [lst]
    · rw [if_neg e]
      simp only [lst, List.getElem_toArray, List.getElem_map, List.getElem_range, List.contains_cons]
      rw [show (i == k) = false by simp; exact fun h => e h.symm, Bool.false_or]

/-- it waits for one that has not come up. -/
def waitD (md : Region.Mode) (D : List Nat) (p : Oper) : Bool := p.after.any fun e => Region.binds md e && !D.contains e.on
/-- the operations by their numbers. -/
def nth : List Oper → Nat → List Oper → List Oper
  | [], _, r => r
  | o :: _, 0, r => o :: r
  | _ :: l, n + 1, r => nth l n r
def pick (l : List Oper) : List Nat → List Oper
  | [] => []
  | i :: is => nth l i (pick l is)
/-- this order serves: operations that only read are free of those behind them, all others come up alone. -/
def planCheck (md : Region.Mode) (ops : Array Oper) : List Nat → List Nat → List Oper → Bool
  | _, [], _ => true
  | _, _ :: _, [] => false
  | D, i :: is, o :: rest => !D.contains i && !waitD md D o && (bif plainOp o then rest.all (fun p => p.after.any (fun e => Region.binds md e && e.on == i) || o.apart ops p) else rest.all (waitD md D)) && planCheck md ops (i :: D) is rest
/-- it names each of n once. -/
def planAll (n : Nat) (plan : List Nat) : Bool := (List.range n).all (fun i => plan.contains i) && plan.all (fun i => decide (i < n))

/-- THE WALK, in the order chosen. -/
def wpLex (sx : Nat) (P : Program) (ops : Array Oper) (Q : Exit → Act → World → Prop) : List Oper → Act → World → Prop
  | [], a, w => Q .normal a w
  | o :: rest, a, w =>
    if plainOp o = true then
      (if Region.wanted o (yielded ops a.tmps) then o.quiet P a (Rb sx w) (fun a' => wpLex sx P ops Q rest a' w) else wpLex sx P ops Q rest (a.put o.dst undef) w)
    else (if Region.wanted o (yielded ops a.tmps) then o.wp P a w (fun a' w' => Rb sx w w' ∧ wpLex sx P ops Q rest a' w') Q else wpLex sx P ops Q rest (a.put o.dst undef) w)

theorem nth_eq : ∀ (l : List Oper) (i : Nat) (r : List Oper) {o : Oper}, l[i]? = some o → nth l i r = o :: r
  | [], i, r, o, h => by simp at h
  | p :: l, 0, r, o, h => by simp at h; subst h; rfl
  | p :: l, i + 1, r, o, h => by simp at h; exact nth_eq l i r h
theorem mem_pick {l : List Oper} {j : Nat} {o : Oper} (hj : l[j]? = some o) : ∀ {is : List Nat}, j ∈ is → (∀ i ∈ is, i < l.length) → o ∈ pick l is
  | [], h, _ => by cases h
  | i :: is, h, hb => by
    have hi : i < l.length := hb i (List.mem_cons_self ..)
    obtain ⟨p, hp⟩ : ∃ p, l[i]? = some p := ⟨l[i], by simp [hi]⟩
    unfold pick
    rw [nth_eq l i _ hp]
    rcases List.mem_cons.1 h with rfl | h
    · rw [hj] at hp
      cases hp
      exact List.mem_cons_self ..
    · exact List.mem_cons_of_mem _ (mem_pick hj h fun k hk => hb k (List.mem_cons_of_mem _ hk))
theorem ready_lst {D : List Nat} (hD : ∀ i ∈ D, i < ops.size) {j : Nat} : j ∈ Region.ready md ops (lst ops.size D) ↔ D.contains j = false ∧ ∃ o, ops[j]? = some o ∧ waitD md D o = false := by
  rw [mem_ready, lst_getD]
  constructor
  · rintro ⟨h1, o, ho, h2⟩
    have hj := (Array.getElem?_eq_some_iff.1 ho).1
    rw [if_pos hj] at h1
    refine ⟨h1, o, ho, ?_⟩
    unfold waitD
    rw [Array.any_eq_false']
    intro e he hc
    rw [Bool.and_eq_true] at hc
    have h3 := h2 e he hc.1
    rw [lst_getD] at h3
    split at h3
    · rw [h3] at hc; cases hc.2
    · cases h3
  · rintro ⟨h1, o, ho, h2⟩
    have hj := (Array.getElem?_eq_some_iff.1 ho).1
    rw [if_pos hj]
    refine ⟨h1, o, ho, fun e he hb => ?_⟩
    unfold waitD at h2
    rw [Array.any_eq_false'] at h2
    have h3 := h2 e he
    rw [hb, Bool.true_and, Bool.not_eq_true', Bool.not_eq_false] at h3
    rw [lst_getD, if_pos (hD _ (by simpa using h3))]
    exact h3

theorem anyR_plan (hsel : Region.noSelect ops = true) (hQ : ∀ d v c a w, Q (.panic c) (a.put d v) w → Q (.panic c) a w) : ∀ (plan D : List Nat) (a : Act) (w : World),
    (∀ i ∈ D, i < ops.size) → (∀ i ∈ plan, i < ops.size) → (∀ i, i < ops.size → i ∈ D ∨ i ∈ plan) → planCheck md ops D plan (pick ops.toList plan) = true → wpLex sx P ops Q (pick ops.toList plan) a w →
    anyR sx P md ops Q plan.length (lst ops.size D) a w
  | [], D, a, w, hD, _, hc, _, h => by
    refine ⟨List.eq_nil_iff_forall_not_mem.2 fun j hj => ?_, h⟩
    obtain ⟨h1, o, ho, _⟩ := (ready_lst hD).1 hj
    rcases hc j (Array.getElem?_eq_some_iff.1 ho).1 with h2 | h2
    · rw [show D.contains j = true by simpa using h2] at h1; cases h1
    · cases h2
  | k :: rest, D, a, w, hD, hp0, hc, hB, h => by
    have hlt : k < ops.size := hp0 k (List.mem_cons_self ..)
    obtain ⟨o, h0⟩ : ∃ o, ops[k]? = some o := ⟨ops[k], by simp [hlt]⟩
    have h0' : ops.toList[k]? = some o := by simpa using h0
    rw [show pick ops.toList (k :: rest) = o :: pick ops.toList rest from nth_eq _ _ _ h0'] at hB h
    simp only [planCheck, Bool.and_eq_true, Bool.not_eq_true'] at hB
    obtain ⟨⟨⟨hu, hw⟩, hf⟩, hB'⟩ := hB
    have hr : k ∈ Region.ready md ops (lst ops.size D) := (ready_lst hD).2 ⟨hu, o, h0, hw⟩
    have hp1 : ∀ i ∈ rest, i < ops.size := fun i hi => hp0 i (List.mem_cons_of_mem _ hi)
    have hD' : ∀ i ∈ k :: D, i < ops.size := fun i hi => by
      rcases List.mem_cons.1 hi with rfl | hi
      · exact hlt
      · exact hD i hi
    have hc' : ∀ i, i < ops.size → i ∈ k :: D ∨ i ∈ rest := fun i hi => by
      rcases hc i hi with h | h
      · exact .inl (List.mem_cons_of_mem _ h)
      · rcases List.mem_cons.1 h with rfl | h
        · exact .inl (List.mem_cons_self ..)
        · exact .inr h
    have behind : ∀ j oj, ops[j]? = some oj → j ≠ k → D.contains j = false → oj ∈ pick ops.toList rest := fun j oj hj hjk hjD => by
      rcases hc j (Array.getElem?_eq_some_iff.1 hj).1 with h | h
      · rw [show D.contains j = true by simpa using h] at hjD; cases hjD
      · rcases List.mem_cons.1 h with h | h
        · exact absurd h hjk
        · exact mem_pick (by simpa using hj) h (fun i hi => by simpa using hp1 i hi)
    unfold wpLex at h
    cases hp : plainOp o
    · rw [hp, if_neg (by decide)] at h
      rw [hp, cond_false, List.all_eq_true] at hf
      refine ⟨fun h => absurd hr (by rw [h]; exact List.not_mem_nil), fun j hj => ?_⟩
      obtain ⟨g1, oj, g2, g3⟩ := (ready_lst hD).1 hj
      have e : j = k := by
        refine Classical.byContradiction fun hne => ?_
        have := hf oj (behind j oj g2 hne g1)
        rw [this] at g3
        cases g3
      subst e
      have h1 := h
      unfold wpOp
      simp only [h0]
      split
      · rename_i hwa
        rw [if_pos hwa] at h1
        refine .inl (Oper.wp_mono (fun a' w' ⟨k1, k2⟩ => ⟨k1, ?_⟩) h1)
        rw [lst_cons]
        exact anyR_plan hsel hQ rest (j :: D) a' w' hD' hp1 hc' hB' k2
      · rename_i hwa
        rw [if_neg hwa] at h1
        refine ⟨Rb.refl w, ?_⟩
        rw [lst_cons]
        exact anyR_plan hsel hQ rest (j :: D) _ w hD' hp1 hc' hB' h1
    · rw [hp, if_pos rfl] at h
      rw [hp, cond_true, List.all_eq_true] at hf
      have key : ∃ v, YieldsIf P ops (Rb sx w) o v a ∧ wpLex sx P ops Q (pick ops.toList rest) (a.put o.dst v) w := by
        split at h
        · rename_i hwa
          obtain ⟨v, h1, h2⟩ := h
          refine ⟨v, .inl ⟨hwa, fun w1 hw1 => ?_⟩, h2⟩
          have h3 := h1 w1 hw1
          unfold Oper.quietAt at h3
          generalize hr : (execOp a.eval o).run P w1 = r at h3
          rcases r with ⟨n, w2⟩ | ⟨x, w2⟩
          · obtain ⟨u, rfl⟩ := plain_value hp hr
            obtain ⟨rfl, rfl⟩ := h3
            rfl
          · exact h3.elim
        · rename_i hwa
          exact ⟨undef, .inr ⟨by simpa using hwa, rfl⟩, h⟩
      obtain ⟨v, hy, hK⟩ := key
      refine anyR_first h0 (Region.noSelect_spec hsel) hQ rest.length _ a w (fun j oj hj hjk hun hno => ?_) hr hy ?_
      · rw [lst_getD, if_pos (Array.getElem?_eq_some_iff.1 hj).1] at hun
        have h1 := hf oj (behind j oj hj hjk hun)
        rw [Bool.or_eq_true] at h1
        rcases h1 with h1 | h1
        · obtain ⟨e, he, hb⟩ := Array.any_eq_true'.1 h1
          simp only [Bool.and_eq_true, beq_iff_eq] at hb
          exact absurd hb.2 (hno e he hb.1)
        · exact h1
      · rw [lst_cons]
        exact anyR_plan hsel hQ rest (k :: D) _ w hD' hp1 hc' hB' hK

/-- THE REGION by its walk in an order chosen (and it doesn't panic). -/
theorem region_plan {id : Nat} {a : Act} {w : World} {l : List Oper} (plan : List Nat) (hm : P.follows .mixedOrders = true) (hsel : Region.noSelect l.toArray = true) (hn : l.length = plan.length) (hA : planAll l.length plan = true)
    (hB : planCheck .any l.toArray [] plan (pick l plan) = true)
    (h : wpLex sx P l.toArray (NoPanic Q) (pick l plan) a w.drew) : (Code.region id l.toArray true).wp P Q a w := by
  refine wp_region_noPanic (wp_region_any hm (any_of_anyR (sx := sx) _ _ _ _ ?_))
  rw [lst_nil]
  unfold planAll at hA
  rw [Bool.and_eq_true, List.all_eq_true, List.all_eq_true] at hA
  have := anyR_plan (sx := sx) (md := .any) (P := P) (ops := l.toArray) (Q := NoPanic Q) hsel (fun _ _ _ _ _ h => h) plan [] a w.drew (fun i hi => by cases hi) (fun i hi => by simpa using hA.2 i hi)
    (fun i hi => .inr (by simpa using hA.1 i (by simpa using hi))) hB h
  simpa [hn] using this
/-- operations that only read, up to the next call. -/
theorem lex_plain : ∀ (n : Nat) {l : List Oper} {a : Act} {w : World}, (l.take n).all plainOp = true → wpQuiet P ops (fun w1 => ∃ s : Wd sx w, w1 = s.w) (fun a' => wpLex sx P ops Q (l.drop n) a' w) (l.take n) a → wpLex sx P ops Q l a w
  | 0, _, _, _, _, h => by simpa [wpQuiet] using h
  | n + 1, [], _, _, _, h => by simpa [wpQuiet] using h
  | n + 1, o :: l, a, w, hp, h => by
    simp only [List.take_succ_cons, List.all_cons, Bool.and_eq_true] at hp
    simp only [List.take_succ_cons, List.drop_succ_cons, wpQuiet] at h
    unfold wpLex
    rw [if_pos hp.1]
    split
    · rename_i hw
      rw [if_pos hw] at h
      exact Oper.quiet_mono (fun a' h' => lex_plain n hp.2 h') h
    · rename_i hw
      rw [if_neg hw] at h
      exact lex_plain n hp.2 h
/-- a call, or a store to sx. -/
theorem lex_call {o : Oper} {l : List Oper} {a : Act} {w : World} (hp : plainOp o = false) (hw : Region.wanted o (yielded ops a.tmps) = true)
    (h : ∀ K : Act → World → Prop, (∀ a' w', w.grownBy w' (some sx) → wpLex sx P ops Q l a' w' → K a' w') → o.wp P a w K Q) : wpLex sx P ops Q (o :: l) a w := by
  unfold wpLex
  rw [hp, if_neg (by decide), if_pos hw]
  exact h _ fun a' w' k1 k2 => ⟨Rb.of k1, k2⟩
/-- an operation that isn't wanted. -/
theorem lex_skip {o : Oper} {l : List Oper} {a : Act} {w : World} (hp : plainOp o = false) (hw : Region.wanted o (yielded ops a.tmps) = false) (h : wpLex sx P ops Q l (a.put o.dst undef) w) : wpLex sx P ops Q (o :: l) a w := by
  unfold wpLex
  rw [hp, if_neg (by decide), hw, if_neg (by decide)]
  exact h
theorem lex_nil {a : Act} {w : World} (h : Q .normal a w) : wpLex sx P ops Q [] a w := h
end
end Go.Proofs.Ytcfmgoilncninaa.LexS

namespace Go.Proofs.Ytcfmgoilncninaa
open Go.RowKit
set_option linter.unusedVariables false
set_option maxRecDepth 4000

theorem Grow.lo {w : World} {base n c : Nat} {t : TypeId} {A : Option Addr} {vs : List Value} (h : Grow w base t (.slice A n c) vs) : AdOk (base ≤ ·) A := fun b off e => by
  have hlt := h.lt b
  subst e
  exact (hlt rfl).1
set_option maxHeartbeats 8000000 in
theorem clonePortsB_as {A : Option Addr} {n c : Nat} {L : List Pt} {w : World} (h : Ps w A n L) (hn : n ≤ 1000) (hb : ∀ p ∈ L, p.bits.length ≤ 100000) :
    Calls Try.prog 103 #[.slice A n c] w fun en w' => ∃ A' c', en = .returned (.slice A' n c') ∧ PsH w.heap.size w' A' n L ∧ Sw A' n c' ∧ Below w.heap.size w w' := by
  have HB := Lib.hid hb
  have HLN := Lib.hid h.1
  clear hb
  go_enter Try.func103, Try.ntmps103
  go_wp2_with fail
  go_loopw [3, 8] (fun cv iv wr => ∃ (j : Nat) (R : List Rp), j ≤ n ∧ iv = .int .i64 j ∧ Hid (wr.ownsRow w.heap.size 119 2 cv j (R.flatMap ptC)) ∧ Hid (R.length = j) ∧ Hid (∀ (k : Nat) (r : Rp) (q : Pt), R[k]? = some r → L[k]? = some q → r.name = q.name ∧ Sw r.A r.m r.c ∧ Wo wr r.A r.m q.bits ∧ AdOk (w.heap.size ≤ ·) r.A) ∧ Hid (Below w.heap.size w wr)) (fun _ iv _ => n - (intOf iv).toNat)
  case atStart => exact ⟨0, [], Nat.zero_le _, rfl, Lib.hid (World.ownsRow_nil w _ _ _), Lib.hid rfl, Lib.hid (fun k r q hr => by simp at hr), Lib.hid (Below.refl _ _)⟩
  case round =>
    obtain ⟨j, R, hj, rfl, HG, HL, HR, BW⟩ := hrel
    by_cases hlt : j < n
    · obtain ⟨q, hq⟩ := look_ex HLN.out hlt
      obtain ⟨b0, off, A0, m, c0, eA, hb0, k1, k2, hm, hc0, hi⟩ := (h.on BW.out).2 j q hq
      have hmb : m ≤ 100000 := by rw [← hi.1]; exact HB.out q (List.mem_of_getElem? hq)
      have swm : Sw A0 m c0 := ⟨hm.1, hc0, hm.2⟩
      obtain ⟨Ac, cc, rfl, swc, hbc, _⟩ := row_at HG.out
      have HQ := Lib.hid hq
      subst eA
      have i0 : (0 : Int) ≤ (j : Int) := by omega
      have i1 : (j : Int) < (n : Int) := by omega
      have hBsz := BW.out.size
      clear hq
      go_upto_region 5 with fail
      obtain ⟨w5, e_w5⟩ : ∃ w', wr.alloc (.cells #[.string q.name, .slice A0 m c0] 119) = w' := ⟨_, rfl⟩
      have z5 : Bx w5 wr.heap.size [.string q.name, .slice A0 m c0] := e_w5 ▸ Bx.made_k wr rfl #[.string q.name, .slice A0 m c0] 119
      have b5 : Below wr.heap.size wr w5 := e_w5 ▸ below_lit _ _
      rw [e_w5]
      clear e_w5 k1 k2
      have BX : Hid (Below w5.heap.size w5 w5.drew) := Lib.hid ((Below.refl _ _).drew)
      have z5c0 := z5.2 0 _ rfl
      have z5c1 := z5.2 1 _ rfl
      have hi5 := hi.on b5
      have r5 := row_on HG.out b5
      have Z5 := Lib.hid z5
      have G5 := Lib.hid r5
      have hw5 : w.heap.size ≤ w5.heap.size := Nat.le_trans hBsz b5.size
      obtain ⟨ht, i, z, hii, hz0, he3, he4, he5, _⟩ := elm_port8
      go_region_law (first
        | (go_simp
           go_at_call 94
           refine (cloneW_as (hi5.on BX.out) swm hmb).mono ?_
           rintro en w6 ⟨A6, c6, rfl, hg6, hw6, sw6, had6, b⟩
           have hlo6 := Nat.le_trans hw5 BX.out.size
           replace BX := Lib.hid (Below.step BX.out b)
           have z6c0 := (Z5.out.on BX.out).2 0 _ rfl
           have b7 : Below w6.heap.size w6 (w6.alloc (.cells #[.string q.name, .slice A6 m c6] 119)) := below_lit _ _
           have z7 : Bx (w6.alloc (.cells #[.string q.name, .slice A6 m c6] 119)) w6.heap.size [.string q.name, .slice A6 m c6] := Bx.made_k w6 rfl #[.string q.name, .slice A6 m c6] 119
           have rX := row_on (row_on G5.out BX.out) b7
           have hbX : w.heap.size ≤ (w6.alloc (.cells #[.string q.name, .slice A6 m c6] 119)).heap.size := Nat.le_trans (Nat.le_trans hw5 BX.out.size) b7.size
           clear b)
        | (refine step_append_lies _ rfl _ _ 50 rfl w.heap.size 119 i z 2 40 ht hii hz0 he3 he4 he5 (by omega) (.slice Ac j cc) j (R.flatMap ptC) rfl rX ⟨w6.heap.size, 0, none⟩ 1 1 [.string q.name, .slice A6 m c6] rfl rfl (fun j u hu => by rw [add_plain, Nat.zero_add]; exact z7.2 j u hu) (by intro u hu; simp at hu; rcases hu with rfl | rfl <;> rfl) (by omega) (by unfold maxLen; omega) (by omega) hbX _ rfl ?_
           intro gq c3 w8 r8 G8 hg8 hlt8))
      all_goals (
        have BY := Below.step BX.out b7
        have B5Y := Below.step b5 BY
        have TKI : TK 3 wr w8 := (TK.below B5Y).trans (TK.row rX G8 b_ne.2.2.1)
        have HW8 := (hw6.on b7).tk (TK.row rX G8 b_ne.2.2.1)
        have had : AdOk (w.heap.size ≤ ·) A6 := fun b off e => Nat.le_trans hlo6 (hg6.lo b off e)
        have B8 : Below w.heap.size w w8 := (Below.step BW.out B5Y).grown G8 (Nat.le_trans hBsz B5Y.size) fun k hk => (rX.lt k hk).1
        go_wp2_with fail
        go_roundw
        case rel =>
          refine ⟨j + 1, R ++ [⟨q.name, A6, m, c6⟩], by omega, by go_num, Lib.hid ?_, Lib.hid (by rw [List.length_append, HL.out]; rfl), Lib.hid ?_, Lib.hid B8⟩
          · rw [List.flatMap_append, List.flatMap_cons, List.flatMap_nil, List.append_nil]
            exact r8
          · intro k r q' hr' hq'
            by_cases hk' : k < j
            · rw [List.getElem?_append_left (by rw [HL.out]; omega)] at hr'
              obtain ⟨f1, f2, f3, f4⟩ := HR.out k r q' hr' hq'
              exact ⟨f1, f2, f3.tk TKI, f4⟩
            · have hkl := (List.getElem?_eq_some_iff.1 hr').1
              rw [List.length_append, HL.out] at hkl
              have hkj : k = j := by simp at hkl; omega
              subst hkj
              rw [List.getElem?_append_right (by rw [HL.out]; exact Nat.le_refl _), HL.out, Nat.sub_self] at hr'
              cases hr'
              have := HQ.out.symm.trans hq'
              injection this with this
              subst this
              exact ⟨rfl, sw6, HW8, had⟩
        case measure => simp [intOf]; omega)
    · obtain rfl : j = n := by omega
      obtain ⟨Ac, cc, rfl, swc, hbc, hrc⟩ := row_ps HG.out
      go_wp2_with fail
      go_ret
      refine ⟨Ac, cc, rfl, ⟨HLN.out, fun k q hq => ?_⟩, swc, BW.out⟩
      have hkl : k < R.length := by
        have := (List.getElem?_eq_some_iff.1 hq).1
        rw [HL.out, ← HLN.out]
        exact this
      obtain ⟨r, hr⟩ : ∃ r, R[k]? = some r := ⟨_, List.getElem?_eq_getElem hkl⟩
      obtain ⟨b, off, e, hlt2, q1, q2⟩ := hrc.2 k r hr
      obtain ⟨f1, f2, f3, f4⟩ := HR.out k r q hr hq
      have hlob := hbc b off e
      exact ⟨b, off, r.A, r.m, r.c, e, hlob.1, hlt2, by rw [q1, f1], q2, ⟨f2.1, fun e => (f2.none_ e).2⟩, f2.2.1, f3.is.isB fun b off e _ => f4 b off e⟩
theorem PG.ps {w : World} {base top n c : Nat} {A : Option Addr} {L : List Pt} (h : PG w base top (.slice A n c) L) (hn : L.length = n) : Ps w A n L := by
  obtain ⟨R, h1, h2, h3⟩ := h
  obtain ⟨A', c', e, sw, hb, hr⟩ := row_ps h1
  injection e with e1 e2 e3
  subst e1 e3
  refine ⟨hn, fun k q hq => ?_⟩
  have hkl : k < R.length := by rw [h2]; exact (List.getElem?_eq_some_iff.1 hq).1
  obtain ⟨r, hr'⟩ : ∃ r, R[k]? = some r := ⟨_, List.getElem?_eq_getElem hkl⟩
  obtain ⟨b, off, e, hlt2, q1, q2⟩ := hr.2 k r hr'
  obtain ⟨f1, f2, f3, f4⟩ := h3 k r q hr' hq
  exact ⟨b, off, r.A, r.m, r.c, e, hlt2, by rw [q1, f1], q2, ⟨f2.1, fun e => (f2.none_ e).2⟩, f2.2.1, f3.1.is⟩
/-- what Net tells. -/
def NetB (w : World) (nn ni no : Nat) (N : List Nd) (I O : List Pt) (en : Ending) (w' : World) : Prop := ∃ Bn dn Bi di Bo do', en = .returned (.agg #[.slice Bn nn dn, .slice Bi ni di, .slice Bo no do']) ∧ Ns w' Bn nn N ∧ Sw Bn nn dn ∧ Ps w' Bi ni I ∧ Sw Bi ni di ∧ Ps w' Bo no O ∧ Sw Bo no do' ∧ Below w.heap.size w w'
/-- what Net tells, and that it lies in blocks of its own. -/
def NetH (w : World) (nn ni no : Nat) (N : List Nd) (I O : List Pt) (en : Ending) (w' : World) : Prop := ∃ Bn dn Bi di Bo do', en = .returned (.agg #[.slice Bn nn dn, .slice Bi ni di, .slice Bo no do']) ∧ Ns w' Bn nn N ∧ AdOk (w.heap.size ≤ ·) Bn ∧ Sw Bn nn dn ∧ PsH w.heap.size w' Bi ni I ∧ Sw Bi ni di ∧ PsH w.heap.size w' Bo no O ∧ Sw Bo no do' ∧ Below w.heap.size w w'
theorem NetH.b {w : World} {nn ni no : Nat} {N : List Nd} {I O : List Pt} {en : Ending} {w' : World} (h : NetH w nn ni no N I O en w') : NetB w nn ni no N I O en w' := by
  obtain ⟨Bn, dn, Bi, di, Bo, do', e, n1, _, s1, n2, s2, n3, s3, b⟩ := h
  exact ⟨Bn, dn, Bi, di, Bo, do', e, n1, s1, n2.ps, s2, n3.ps, s3, b⟩
section
variable {s : Nat} {w w' : World} {A : Option Addr} {n : Nat}
theorem cell_by (hk : ∀ b, s ≤ b → b < w.heap.size → w'.heap[b]? = w.heap[b]?) {b o : Nat} {v : Value} (h1 : s ≤ b) (h2 : b < w.heap.size) (h : w.cell? ⟨b, o, none⟩ = some v) : w'.cell? ⟨b, o, none⟩ = some v := (World.cell?_of_block (a := ⟨b, o, none⟩) (hk b h1 h2)).trans h
theorem Ns.by_ {L : List Nd} (h : Ns w A n L) (hA : AdOk (s ≤ ·) A) (hs : w.heap.size ≤ w'.heap.size) (hk : ∀ b, s ≤ b → b < w.heap.size → w'.heap[b]? = w.heap[b]?) : Ns w' A n L := ⟨h.1, fun k x hx => by
  obtain ⟨b, off, e, h1, h2, h3, h4, h5⟩ := h.2 k x hx
  have hb := hA b off e
  exact ⟨b, off, e, Nat.lt_of_lt_of_le h1 hs, cell_by hk hb h1 h2, cell_by hk hb h1 h3, cell_by hk hb h1 h4, cell_by hk hb h1 h5⟩⟩
theorem PsH.by_ {L : List Pt} (h : PsH s w A n L) (hs : w.heap.size ≤ w'.heap.size) (hk : ∀ b, s ≤ b → b < w.heap.size → w'.heap[b]? = w.heap[b]?) : PsH s w' A n L := ⟨h.1, fun k p hp => by
  obtain ⟨b, off, A', m, c, h1, h0, h2, h3, h4, h5, h6, h7⟩ := h.2 k p hp
  exact ⟨b, off, A', m, c, h1, h0, Nat.lt_of_lt_of_le h2 hs, cell_by hk h0 h2 h3, cell_by hk h0 h2 h4, h5, h6, h7.1, fun k x hx => by
    obtain ⟨b, off, g1, g2, g3, g4⟩ := h7.2 k x hx
    exact ⟨b, off, g1, g2, Nat.lt_of_lt_of_le g3 hs, cell_by hk g2 g3 g4⟩⟩⟩
end
theorem Bd.dj {w : World} {base top p : Nat} {N : List Nd} {I O : List Pt} (h : Bd w base top p N I O) {w' : World} (b : Below w.heap.size w w') (T2 : Nat) : Dj w' p w.heap.size T2 := by
  obtain ⟨vn, vi, vo, g1, g2, ⟨R3, g3, _⟩, ⟨R4, g4, _⟩, _⟩ := h.ex
  have hp := Own.lt g1
  refine fun c x _ => ⟨by omega, fun k v hv e => ?_⟩
  have hv' : w.cell? ⟨p, k, none⟩ = some v := by rw [← hv]; exact (b.cell (p := ⟨p, k, none⟩) hp).symm
  rw [g1.cell k] at hv'
  rcases k with _ | _ | _ | k
  · cases hv'; have := (g2.lt _ e).2; omega
  · cases hv'; have := (g3.lt _ e).2; omega
  · cases hv'; have := (g4.lt _ e).2; omega
  · simp at hv'
theorem net_end {w w2 w4 w5 : World} {s1 s3 nn ni no dn di do' : Nat} {Bn Bi Bo : Option Addr} {N : List Nd} {I O : List Pt} (hs1 : w.heap.size = s1) (ZR : Own w5 s1 52 [.slice none 0 0, .slice none 0 0, .slice none 0 0]) (hrow : w5.ownsRow w2.heap.size 117 4 (.slice Bn nn dn) nn (N.flatMap ndC)) (h2 : s1 < w2.heap.size) (swn : Sw Bn nn dn) (hpi : PsH s3 w5 Bi ni I) (h3 : s1 < s3) (swi : Sw Bi ni di) (hpo : PsH w4.heap.size w5 Bo no O) (h4 : s1 < w4.heap.size) (swo : Sw Bo no do') (BW : Below w.heap.size w w5) :
    NetH w nn ni no N I O (.returned (.agg #[.slice Bn nn dn, .slice Bi ni di, .slice Bo no do'])) (((w5.setCell ⟨s1, 0, none⟩ (.slice Bn nn dn)).setCell ⟨s1, 1, none⟩ (.slice Bi ni di)).setCell ⟨s1, 2, none⟩ (.slice Bo no do')) ∧ (((w5.setCell ⟨s1, 0, none⟩ (.slice Bn nn dn)).setCell ⟨s1, 1, none⟩ (.slice Bi ni di)).setCell ⟨s1, 2, none⟩ (.slice Bo no do')).cell? ⟨s1, 0, none⟩ = some (.slice Bn nn dn) ∧ (((w5.setCell ⟨s1, 0, none⟩ (.slice Bn nn dn)).setCell ⟨s1, 1, none⟩ (.slice Bi ni di)).setCell ⟨s1, 2, none⟩ (.slice Bo no do')).cell? ⟨s1, 1, none⟩ = some (.slice Bi ni di) ∧ (((w5.setCell ⟨s1, 0, none⟩ (.slice Bn nn dn)).setCell ⟨s1, 1, none⟩ (.slice Bi ni di)).setCell ⟨s1, 2, none⟩ (.slice Bo no do')).cell? ⟨s1, 2, none⟩ = some (.slice Bo no do') := by
  have VR := ((ZR.put 0 (.slice Bn nn dn)).put 1 (.slice Bi ni di)).put 2 (.slice Bo no do')
  have p0 := VR.cell 0
  have p1 := VR.cell 1
  have p2 := VR.cell 2
  have hk : (Value.slice Bn nn dn).ownBlock = none ∨ (Value.slice Bn nn dn).ownBlock ≠ some s1 := by
    right
    intro e
    have := (hrow.lt _ e).1
    omega
  have hrow6 := ((hrow.kept (grown_set w5 ⟨s1, 0, none⟩ (.slice Bn nn dn)) hk).kept (grown_set _ ⟨s1, 1, none⟩ (.slice Bi ni di)) hk).kept (grown_set _ ⟨s1, 2, none⟩ (.slice Bo no do')) hk
  have hpi6 := ((hpi.far (grown_set w5 ⟨s1, 0, none⟩ (.slice Bn nn dn)) h3).far (grown_set _ ⟨s1, 1, none⟩ (.slice Bi ni di)) h3).far (grown_set _ ⟨s1, 2, none⟩ (.slice Bo no do')) h3
  have hpo6 := ((hpo.far (grown_set w5 ⟨s1, 0, none⟩ (.slice Bn nn dn)) h4).far (grown_set _ ⟨s1, 1, none⟩ (.slice Bi ni di)) h4).far (grown_set _ ⟨s1, 2, none⟩ (.slice Bo no do')) h4
  have hws : w.heap.size ≤ s1 := Nat.le_of_eq hs1
  have BW6 := ((BW.setCell (p := ⟨s1, 0, none⟩) hws (.slice Bn nn dn)).setCell (p := ⟨s1, 1, none⟩) hws (.slice Bi ni di)).setCell (p := ⟨s1, 2, none⟩) hws (.slice Bo no do')
  obtain ⟨_, _, e, _, hb6, hNs6⟩ := row_ns hrow6
  injection e with e1 e2 e3
  subst e1 e3
  refine ⟨⟨Bn, dn, Bi, di, Bo, do', rfl, hNs6, fun b off e => by have := (hb6 b off e).1; omega, swn, hpi6.mono (by omega), swi, hpo6.mono (by omega), swo, BW6⟩, ?_, ?_, ?_⟩
  · simpa using p0
  · simpa using p1
  · simpa using p2
set_option maxHeartbeats 8000000 in
/-- NET. -/
theorem net_h {w : World} {base top p : Nat} {N : List Nd} {I O : List Pt} (h : Bd w base top p N I O) {nn ni no : Nat} (hnn : N.length = nn) (hni : I.length = ni) (hno : O.length = no) (hN : nn ≤ 100000) (hI : ni ≤ 1000) (hO : no ≤ 1000) (hb : ∀ q ∈ I ++ O, q.bits.length ≤ 100000) :
    Calls Try.prog 30 #[.pointer (some ⟨p, 0, none⟩)] w (NetH w nn ni no N I O) := by
  have hb1 : Hid (∀ p ∈ I, p.bits.length ≤ 100000) := Lib.hid fun p hp => hb p (List.mem_append_left _ hp)
  have hb2 : Hid (∀ p ∈ O, p.bits.length ≤ 100000) := Lib.hid fun p hp => hb p (List.mem_append_right _ hp)
  clear hb
  obtain ⟨vn, vi, vo, g1, g2, g3, g4, j0⟩ := h.ex
  clear h j0
  obtain ⟨R3, g31, g32⟩ := g3
  obtain ⟨R4, g41, g42⟩ := g4
  obtain ⟨Ai, ci, rfl, swi0, j1⟩ := row_at g31
  clear j1
  obtain ⟨Ao, co, rfl, swo0, j1⟩ := row_at g41
  clear j1
  have hPi0 : Ps w Ai I.length I := PG.ps ⟨R3, g31, g32⟩ rfl
  have hPo0 : Ps w Ao O.length O := PG.ps ⟨R4, g41, g42⟩ rfl
  obtain ⟨An, cn, rfl, swn0, j1, hNs0⟩ := row_ns g2
  clear j1
  have hPi : Ps w Ai ni I := by rw [← hni]; exact hPi0
  have hPo : Ps w Ao no O := by rw [← hno]; exact hPo0
  have hNs : Ns w An nn N := by rw [← hnn]; exact hNs0
  have swn : Sw An nn cn := by rw [← hnn]; exact swn0
  rw [hnn, hni, hno] at g1
  clear g2 g31 g32 g41 g42 hPi0 hPo0 hNs0 swn0 swi0 swo0 hnn hni hno
  have hpw := Own.lt g1
  have z0 : Bx w p [.slice An nn cn, .slice Ai ni ci, .slice Ao no co] := ⟨hpw, fun k u hu => (g1.cell k).trans hu⟩
  clear g1
  go_enter Try.func30, Try.ntmps30
  go_upto_region 1 with fail
  obtain ⟨w2, e_w2⟩ : ∃ w', w.alloc (.cells #[.slice none 0 0, .slice none 0 0, .slice none 0 0] 52) = w' := ⟨_, rfl⟩
  have ZR0 : Own w2 w.heap.size 52 [.slice none 0 0, .slice none 0 0, .slice none 0 0] := e_w2 ▸ Own.made w 52 [.slice none 0 0, .slice none 0 0, .slice none 0 0]
  have b2 : Below w.heap.size w w2 := e_w2 ▸ below_lit _ _
  rw [e_w2]
  clear e_w2
  have hs1 := Nat.le_refl w.heap.size
  have HNE : Hid (p ≠ w.heap.size) := Lib.hid (by omega)
  obtain ⟨s1, HS1⟩ : ∃ s1, Hid (w.heap.size = s1) := ⟨_, Lib.hid rfl⟩
  rw [HS1.out] at ZR0 HNE ⊢
  have HZR := Lib.hid ZR0
  have HB2 : Hid (Below w.heap.size w w2) := Lib.hid b2
  replace z0 := z0.on HB2.out
  replace hNs := hNs.on HB2.out
  replace hPi := hPi.on HB2.out
  replace hPo := hPo.on HB2.out
  clear ZR0 hs1 b2 hpw
  have hD : Below w2.heap.size w2 w2.drew := (Below.refl _ _).drew
  refine LexS.region_plan (sx := s1) [0, 1, 2, 3, 4, 6, 7, 8, 9, 10, 12, 13, 14, 15, 16, 5, 11, 17, 18, 19] (by kernel_rfl) (by kernel_rfl) (by kernel_rfl) (by kernel_rfl) (by kernel_rfl) ?_
  dsimp only [LexS.pick, LexS.nth]
  replace z0 := z0.on hD
  replace hNs := hNs.on hD
  replace hPi := hPi.on hD
  replace hPo := hPo.on hD
  replace HZR := Lib.hid (HZR.out.below hD HZR.out.lt)
  replace HB2 := Lib.hid (Below.step HB2.out hD)
  obtain ⟨wd, e_wd⟩ : ∃ w', w2.drew = w' := ⟨_, rfl⟩
  rw [e_wd] at z0 hNs hPi hPo HZR HB2 ⊢
  clear e_wd hD
  have lf0 := fun s : LexS.Wd s1 wd => s.below.cell (z0.2 0 _ rfl) (fun e => HNE.out (Option.some.inj e))
  have lf1 := fun s : LexS.Wd s1 wd => s.below.cell (z0.2 1 _ rfl) (fun e => HNE.out (Option.some.inj e))
  have lf2 := fun s : LexS.Wd s1 wd => s.below.cell (z0.2 2 _ rfl) (fun e => HNE.out (Option.some.inj e))
  refine LexS.lex_plain 15 (by kernel_rfl) ?_
  dsimp only [List.take, List.drop]
  repeat go_big_quiet_step (fail)
  refine wpQuiet_nil ?_
  clear lf0 lf1 lf2 z0
  have hsz := HZR.out.lt
  refine LexS.lex_call (by kernel_rfl) (by kernel_rfl) (fun K hK => ?_)
  go_simp
  refine (cloneN_as hNs swn hN).mono ?_
  rintro en w3 ⟨vN, rfl, hrow, b⟩
  dsimp only
  refine hK _ _ (Gb.of _ b) ?_
  clear hK K
  have Hlt2 := Lib.hid hsz
  obtain ⟨Bn, dn, rfl, swn', j1⟩ := row_at hrow
  clear j1
  replace hPi := hPi.on b
  replace hPo := hPo.on b
  replace HZR := Lib.hid (HZR.out.below b HZR.out.lt)
  replace HB2 := Lib.hid (Below.step HB2.out b)
  clear b hsz hNs swn
  have hsz := HZR.out.lt
  refine LexS.lex_call (by kernel_rfl) (by kernel_rfl) (fun K hK => ?_)
  go_simp
  refine (clonePortsB_as hPi hI hb1.out).mono ?_
  rintro en w4 ⟨Bi, di, rfl, hpi, swi, b⟩
  dsimp only
  refine hK _ _ (Gb.of _ b) ?_
  clear hK K
  have Hlt3 := Lib.hid hsz
  replace hrow := row_on hrow b
  replace hPo := hPo.on b
  replace HZR := Lib.hid (HZR.out.below b HZR.out.lt)
  replace HB2 := Lib.hid (Below.step HB2.out b)
  clear b hsz hPi
  have hsz := HZR.out.lt
  refine LexS.lex_call (by kernel_rfl) (by kernel_rfl) (fun K hK => ?_)
  go_simp
  refine (clonePortsB_as hPo hO hb2.out).mono ?_
  rintro en w5 ⟨Bo, do', rfl, hpo, swo, b⟩
  dsimp only
  refine hK _ _ (Gb.of _ b) ?_
  clear hK K
  have Hlt4 := Lib.hid hsz
  replace hrow := row_on hrow b
  replace hpi := hpi.on b
  replace HZR := Lib.hid (HZR.out.below b HZR.out.lt)
  replace HB2 := Lib.hid (Below.step HB2.out b)
  clear b hsz hPo
  have Hrow := Lib.hid hrow
  have Hpi := Lib.hid hpi
  have Hpo := Lib.hid hpo
  have Hswn := Lib.hid swn'
  have Hswi := Lib.hid swi
  have Hswo := Lib.hid swo
  clear hrow hpi hpo swn' swi swo hN hI hO
  refine LexS.lex_plain 1 (by kernel_rfl) ?_
  dsimp only [List.take, List.drop]
  repeat go_big_quiet_step (fail)
  refine wpQuiet_nil ?_
  have t0 := HZR.out.cell 0
  have t1 := HZR.out.cell 1
  have t2 := HZR.out.cell 2
  have f0 := HZR.out.free 0
  have f1 := HZR.out.free 1
  have f2 := HZR.out.free 2
  simp only [List.getElem?_cons_succ, List.getElem?_cons_zero] at t0 t1 t2
  obtain ⟨hnb, p0, p1, p2⟩ := net_end HS1.out HZR.out Hrow.out Hlt2.out Hswn.out Hpi.out Hlt3.out Hswi.out Hpo.out Hlt4.out Hswo.out HB2.out
  refine LexS.lex_call (by kernel_rfl) (by kernel_rfl) (fun K hK => ?_)
  go_simp
  refine hK _ _ (Gb.trans (Gb.trans (grown_set _ ⟨s1, 0, none⟩ _) (grown_set _ ⟨s1, 1, none⟩ _)) (grown_set _ ⟨s1, 2, none⟩ _)) ?_
  clear hK K
  refine LexS.lex_nil ?_
  dsimp only [NoPanic]
  go_wp2_with fail
  exact bodyPost_ret (v := .agg #[.slice Bn nn dn, .slice Bi ni di, .slice Bo no do']) (by simp [results, Try.results30, go_sem, p0, p1, p2]) rfl hnb
theorem net_b {w : World} {base top p : Nat} {N : List Nd} {I O : List Pt} (h : Bd w base top p N I O) {nn ni no : Nat} (hnn : N.length = nn) (hni : I.length = ni) (hno : O.length = no) (hN : nn ≤ 100000) (hI : ni ≤ 1000) (hO : no ≤ 1000) (hb : ∀ q ∈ I ++ O, q.bits.length ≤ 100000) :
    Calls Try.prog 30 #[.pointer (some ⟨p, 0, none⟩)] w (NetB w nn ni no N I O) := (net_h h hnn hni hno hN hI hO hb).mono fun _ _ h => h.b
end Go.Proofs.Ytcfmgoilncninaa

namespace Go.Proofs.Ytcfmgoilncninaa
open Go.RowKit
set_option linter.unusedVariables false
set_option maxRecDepth 4000

theorem Wo.c0 {w : World} {b off n : Nat} {x : Int} {L : List Int} (h : Wo w (some ⟨b, off, none⟩) n (x :: L)) : w.cell? ⟨b, off, none⟩ = some (.int .i64 x) := RwT.c0 (vs := ivs L) h
theorem Wo.c1 {w : World} {b off n : Nat} {x y : Int} {L : List Int} (h : Wo w (some ⟨b, off, none⟩) n (x :: y :: L)) : w.cell? ⟨b, off + 1, none⟩ = some (.int .i64 y) := RwT.c1 (vs := ivs L) h
theorem wo_two {w : World} {A : Option Addr} {x y : Int} (h : Wo w A 2 [x, y]) : ∃ b off, A = some ⟨b, off, none⟩ := by
  obtain ⟨b, off, e, _⟩ := h.1.2 0 _ rfl
  exact ⟨b, off, e⟩
set_option maxHeartbeats 400000 in
theorem of5_as (w : World) :
    Calls Try.prog 86 #[.int .u64 5] w fun en w' => ∃ A m, en = .returned (.slice A m m) ∧ ResT w' A m 5 ∧ Sw A m m ∧ Below w.heap.size w w' := by
  have ho : Own (w.alloc (.cells #[.int .u32 5, .int .u32 0] 127)) w.heap.size 127 [.int .u32 5, .int .u32 0] := Own.made w _ _
  have ha : Arg (w.alloc (.cells #[.int .u32 5, .int .u32 0] 127)) (some ⟨w.heap.size, 0, none⟩) 2 2 5 :=
    ⟨[5, 0], ho.nr (Dg.mk (by omega) (Dg.mk (by omega) Dg.nil)), by omega, by unfold maxLen; omega, by simp [val]⟩
  have HA := Lib.hid ha
  have HO := Lib.hid ho
  clear ha ho
  go_enter Try.func86, Try.ntmps86
  go_wp2_with fail
  refine (cutN HA.out).mono ?_
  rintro e w' ⟨m, rfl, hr, hm, rfl⟩
  go_wp2_with fail
  go_ret
  obtain ⟨xs, h1, h2, h3⟩ := hr
  exact ⟨_, m, rfl, ⟨xs, ⟨⟨h1.1.1, h1.1.2⟩, fun _ => ⟨w.heap.size, 0, _, _, rfl, HO.out⟩⟩, h2, h3⟩, Sw.one _ m (by omega), (Below.refl _ _).alloc (Nat.le_refl _) _⟩
def N8 : List Nd := [⟨1, 0, 0, 0⟩, ⟨1, 0, 0, 0⟩, ⟨3, 0, 1, 0⟩, ⟨6, 0, 2, 1⟩, ⟨7, 3, 1, 0⟩]
def I8 : List Pt := [⟨⟨#[97]⟩, [0, 1]⟩]
def O8 : List Pt := [⟨⟨#[122]⟩, [4, 2]⟩]
theorem same8 : sameS N8 N8 I8 I8 O8 O8 = true := by decide +kernel
set_option maxRecDepth 20000 in
set_option maxHeartbeats 8000000 in
/-- AWAKE. -/
theorem awake8_any (w : World) : Calls Try.prog 14 #[] w fun en w' => en = .returned (.bool true) ∧ Below w.heap.size w w' := by
  go_enter Try.func14, Try.ntmps14
  go_wp2_with fail
  refine (new_b _).mono ?_
  rintro en w1 ⟨p, rfl, h, b1⟩
  have hs1 := b1.size
  go_wp2_with fail
  refine (in_as h (by simp) _ 2 (by omega) (by simp)).mono ?_
  rintro en w2 ⟨A, c, rfl, hx, swx, hax, top2, ht2, h2, f2⟩
  have F := f2.bw
  rw [show plc ([] : List Nd).length 2 = [0, 1] from rfl] at hx h2
  rw [show ([] : List Nd) ++ ins0 2 = [⟨1, 0, 0, 0⟩, ⟨1, 0, 0, 0⟩] from rfl] at h2
  obtain ⟨b0, off, rfl⟩ := wo_two hx
  have HBW := Lib.hid (b1.trans f2.bw)
  clear h b1 f2 F
  go_upto_region 7 with fail
  have hd := hx.on ((Below.refl _ _).drew : Below w2.heap.size w2 w2.drew)
  have h2d := h2.on ((Below.refl _ _).drew : Below w2.heap.size w2 w2.drew)
  have HB2 : Hid (Below w.heap.size w w2.drew) := Lib.hid HBW.out.drew
  clear hx h2 HBW
  have hx := hd
  have h := h2d
  have BW := HB2
  clear hd h2d HB2
  go_region_held3 (fun w' => w'.cell? ⟨b0, off, none⟩ = some (.int .i64 0) ∧ w'.cell? ⟨b0, off + 1, none⟩ = some (.int .i64 1))
    ((with_reducible exact ⟨hx.c0, hx.c1⟩))
    (first
      | (go_at_call 83
         (with_reducible refine (and_as h (by simp) 0 1).mono ?_)
         rintro en w3 ⟨rfl, h', f⟩
         replace hx := hx.tk f.int
         replace BW := Lib.hid (BW.out.trans f.bw)
         clear h
         have h := h'
         clear h'))
  go_upto_region 8 with fail
  have bd : Below w3.heap.size w3 w3.drew := (Below.refl _ _).drew
  replace hx := hx.on bd
  have h' := h.on bd
  replace BW := Lib.hid (BW.out.drew)
  clear h bd
  have h := h'
  clear h'
  go_region_held3 (fun w' => w'.cell? ⟨b0, off, none⟩ = some (.int .i64 0) ∧ w'.cell? ⟨b0, off + 1, none⟩ = some (.int .i64 1))
    ((with_reducible exact ⟨hx.c0, hx.c1⟩))
    (first
      | (go_at_call 84
         (with_reducible refine (mux_as h (by simp) 0 2 1).mono ?_)
         rintro en w4 ⟨rfl, h', f⟩
         replace hx := hx.tk f.int
         replace BW := Lib.hid (BW.out.trans f.bw)
         clear h
         have h := h'
         clear h'))
  clear hx
  replace BW := BW.out
  go_wp2_with fail
  refine (reg_as h (by simp) 3 5).mono ?_
  rintro en w5 ⟨rfl, h5, f5⟩
  replace BW := BW.trans f5.bw
  clear h f5
  go_wp2_with fail
  obtain ⟨w6, e_w6⟩ : ∃ w', w5.alloc (.cells #[.int .i64 4, .int .i64 2] 3) = w' := ⟨_, rfl⟩
  have b6 : Below w5.heap.size w5 w6 := e_w6 ▸ below_lit _ _
  have z6 : Bx w6 w5.heap.size [.int .i64 4, .int .i64 2] := e_w6 ▸ Bx.made_k w5 rfl #[.int .i64 4, .int .i64 2] 3
  rw [e_w6]
  clear e_w6
  have h6 := h5.on b6
  replace BW := Below.step BW b6
  clear h5 b6
  refine (out_as h6 (by simp) _ (Bx.is (L := [4, 2]) z6) (Sw.one _ 2 (by omega)) (by decide)).mono ?_
  rintro en w7 ⟨⟨u, rfl⟩, top7, ht7, h7, f7⟩
  have h8 : Bd w7 w.heap.size top7 p N8 I8 O8 := h7
  have HDj : Hid (∀ w' T2, Below w7.heap.size w7 w' → Dj w' p w7.heap.size T2) := Lib.hid fun w' T2 b => h8.dj b T2
  replace BW := BW.trans f7.bw
  clear h7 f7 h6 z6
  go_wp2_with fail
  refine (net_h h8 (nn := 5) (ni := 1) (no := 1) rfl rfl rfl (by omega) (by omega) (by omega) (by intro q hq; simp [I8, O8] at hq; rcases hq with rfl | rfl <;> simp)).mono ?_
  rintro en w8 ⟨Bn, dn, Bi, di, Bo, do', rfl, n1, a1, sw1, n2, sw2, n3, sw3, b8⟩
  have HA1 := Lib.hid a1
  have B7 := b8
  have h78 := b8.size
  clear a1
  have h9 := h8.on b8
  replace BW := Below.step BW b8
  clear h8 b8
  go_upto_region 12 with fail
  obtain ⟨w9, e_w9⟩ : ∃ w', w8.alloc (.cells #[.slice Bn 5 dn, .slice Bi 1 di, .slice Bo 1 do'] 52) = w' := ⟨_, rfl⟩
  have b9 : Below w8.heap.size w8 w9 := e_w9 ▸ below_lit _ _
  have z9 : Own w9 w8.heap.size 52 [.slice Bn 5 dn, .slice Bi 1 di, .slice Bo 1 do'] := e_w9 ▸ Own.made w8 52 [.slice Bn 5 dn, .slice Bi 1 di, .slice Bo 1 do']
  rw [e_w9]
  clear e_w9
  replace n1 := n1.on b9
  replace n2 := n2.on b9
  replace n3 := n3.on b9
  have h10 := h9.on b9
  replace B7 := Below.step B7 b9
  replace BW := Below.step BW b9
  clear h9 b9
  go_wp2_with fail
  refine (of5_as _).mono ?_
  rintro en w10 ⟨Ar, mr, rfl, hr, swr, b10⟩
  replace n1 := n1.on b10
  replace n2 := n2.on b10
  replace n3 := n3.on b10
  replace z9 := z9.below b10 z9.lt
  have h11 := h10.on b10
  replace B7 := Below.step B7 b10
  replace BW := Below.step BW b10
  clear h10 b10
  go_wp2_with fail
  refine (word_b h11 (x := 5) (fun w' hf => (hr.tk (hf.tk _ (by decide) (by decide) (by decide))).arg swr) 4 (by omega) (by simp [N8])).mono ?_
  rintro en w11 ⟨Aw, cw, rfl, hw, sww, h12, f12⟩
  obtain ⟨_, hk⟩ := f12.own w7.heap.size w10.heap.size (Nat.le_refl _) (HDj.out _ _ B7)
  have hz := f12.bw.size
  replace n1 := n1.by_ HA1.out hz hk
  replace n2 := (n2.by_ hz hk).ps
  replace n3 := (n3.by_ hz hk).ps
  replace z9 := z9.tk (f12.tk _ (by decide) (by decide) (by decide))
  replace BW := BW.trans f12.bw
  clear f12 hk hz hw HDj B7 HA1 h78 h11 hr
  have c0 := z9.cell 0
  have c1 := z9.cell 1
  have c2 := z9.cell 2
  simp only [List.getElem?_cons_succ, List.getElem?_cons_zero] at c0 c1 c2
  have N1 := Lib.hid n1
  have N2 := Lib.hid n2
  have N3 := Lib.hid n3
  have H12 := Lib.hid h12
  have HBW := Lib.hid BW
  clear n1 n2 n3 h12 BW z9
  go_wp2_with fail
  obtain ⟨x1, e1⟩ : ∃ w', w11.alloc (.cells #[.int .i64 1, .int .i64 0, .int .i64 0, .int .i64 0, .int .i64 1, .int .i64 0, .int .i64 0, .int .i64 0, .int .i64 3, .int .i64 0, .int .i64 1, .int .i64 0, .int .i64 6, .int .i64 0, .int .i64 2, .int .i64 1, .int .i64 7, .int .i64 3, .int .i64 1, .int .i64 0] 117) = w' := ⟨_, rfl⟩
  rw [e1]
  have y1 : Bx x1 (w11.heap.size) [.int .i64 1, .int .i64 0, .int .i64 0, .int .i64 0, .int .i64 1, .int .i64 0, .int .i64 0, .int .i64 0, .int .i64 3, .int .i64 0, .int .i64 1, .int .i64 0, .int .i64 6, .int .i64 0, .int .i64 2, .int .i64 1, .int .i64 7, .int .i64 3, .int .i64 1, .int .i64 0] := e1 ▸ Bx.made_k w11 (rfl : w11.heap.size = w11.heap.size) #[.int .i64 1, .int .i64 0, .int .i64 0, .int .i64 0, .int .i64 1, .int .i64 0, .int .i64 0, .int .i64 0, .int .i64 3, .int .i64 0, .int .i64 1, .int .i64 0, .int .i64 6, .int .i64 0, .int .i64 2, .int .i64 1, .int .i64 7, .int .i64 3, .int .i64 1, .int .i64 0] 117
  have q1 : x1.heap.size = w11.heap.size + 1 := e1 ▸ size_lit w11 _ (rfl : w11.heap.size = w11.heap.size)
  have b1 : Below w11.heap.size w11 x1 := e1 ▸ below_lit _ _
  clear e1
  have BL := b1
  obtain ⟨x2, e2⟩ : ∃ w', x1.alloc (.cells #[.int .i64 0, .int .i64 1] 3) = w' := ⟨_, rfl⟩
  rw [e2]
  have y2 : Bx x2 (w11.heap.size + 1) [.int .i64 0, .int .i64 1] := e2 ▸ Bx.made_k x1 q1 #[.int .i64 0, .int .i64 1] 3
  have q2 : x2.heap.size = w11.heap.size + 1 + 1 := e2 ▸ size_lit x1 _ q1
  have b2 : Below x1.heap.size x1 x2 := e2 ▸ below_lit _ _
  clear e2
  replace y1 := y1.on b2
  replace BL := Below.step BL b2
  obtain ⟨x3, e3⟩ : ∃ w', x2.alloc (.cells #[.string ⟨#[97]⟩, .slice (some ⟨w11.heap.size + 1, 0, none⟩) 2 2] 119) = w' := ⟨_, rfl⟩
  rw [e3]
  have y3 : Bx x3 (w11.heap.size + 1 + 1) [.string ⟨#[97]⟩, .slice (some ⟨w11.heap.size + 1, 0, none⟩) 2 2] := e3 ▸ Bx.made_k x2 q2 #[.string ⟨#[97]⟩, .slice (some ⟨w11.heap.size + 1, 0, none⟩) 2 2] 119
  have q3 : x3.heap.size = w11.heap.size + 1 + 1 + 1 := e3 ▸ size_lit x2 _ q2
  have b3 : Below x2.heap.size x2 x3 := e3 ▸ below_lit _ _
  clear e3
  replace y1 := y1.on b3
  replace y2 := y2.on b3
  replace BL := Below.step BL b3
  obtain ⟨x4, e4⟩ : ∃ w', x3.alloc (.cells #[.int .i64 4, .int .i64 2] 3) = w' := ⟨_, rfl⟩
  rw [e4]
  have y4 : Bx x4 (w11.heap.size + 1 + 1 + 1) [.int .i64 4, .int .i64 2] := e4 ▸ Bx.made_k x3 q3 #[.int .i64 4, .int .i64 2] 3
  have q4 : x4.heap.size = w11.heap.size + 1 + 1 + 1 + 1 := e4 ▸ size_lit x3 _ q3
  have b4 : Below x3.heap.size x3 x4 := e4 ▸ below_lit _ _
  clear e4
  replace y1 := y1.on b4
  replace y2 := y2.on b4
  replace y3 := y3.on b4
  replace BL := Below.step BL b4
  obtain ⟨x5, e5⟩ : ∃ w', x4.alloc (.cells #[.string ⟨#[122]⟩, .slice (some ⟨w11.heap.size + 1 + 1 + 1, 0, none⟩) 2 2] 119) = w' := ⟨_, rfl⟩
  rw [e5]
  have y5 : Bx x5 (w11.heap.size + 1 + 1 + 1 + 1) [.string ⟨#[122]⟩, .slice (some ⟨w11.heap.size + 1 + 1 + 1, 0, none⟩) 2 2] := e5 ▸ Bx.made_k x4 q4 #[.string ⟨#[122]⟩, .slice (some ⟨w11.heap.size + 1 + 1 + 1, 0, none⟩) 2 2] 119
  have q5 : x5.heap.size = w11.heap.size + 1 + 1 + 1 + 1 + 1 := e5 ▸ size_lit x4 _ q4
  have b5 : Below x4.heap.size x4 x5 := e5 ▸ below_lit _ _
  clear e5
  replace y1 := y1.on b5
  replace y2 := y2.on b5
  replace y3 := y3.on b5
  replace y4 := y4.on b5
  replace BL := Below.step BL b5
  have i2 := Bx.is (L := [0, 1]) y2
  have i4 := Bx.is (L := [4, 2]) y4
  have r1 : Ns x5 (some ⟨w11.heap.size, 0, none⟩) 5 N8 := Bx.ns (L := N8) y1
  have r3 : Ps x5 (some ⟨w11.heap.size + 1 + 1, 0, none⟩) 1 I8 := Bx.ps1 y3 i2 ⟨Nat.le_refl _, fun e => by cases e⟩ (by unfold maxLen; omega)
  have r5 : Ps x5 (some ⟨w11.heap.size + 1 + 1 + 1 + 1, 0, none⟩) 1 O8 := Bx.ps1 y5 i4 ⟨Nat.le_refl _, fun e => by cases e⟩ (by unfold maxLen; omega)
  have hb8 : ∀ q ∈ I8 ++ O8, q.bits.length ≤ 1000000 := by intro q hq; simp [I8, O8] at hq; rcases hq with rfl | rfl <;> simp
  refine (rsame_as (⟨N1.out.on BL, N2.out.on BL, N3.out.on BL, sw2, sw3, by omega, by omega, hb8⟩ : Nt x5 Bn 5 dn Bi 1 di Bo 1 do' N8 I8 O8) (⟨r1, r3, r5, Sw.one _ 1 (by omega), Sw.one _ 1 (by omega), by omega, by omega, hb8⟩ : Nt x5 _ 5 5 _ 1 1 _ 1 1 N8 I8 O8) true same8).mono ?_
  rintro en w12 ⟨rfl, b12⟩
  have b' := Below.step BL b12
  have h13 := H12.out.on b'
  have HBW' := Lib.hid (Below.step HBW.out b')
  clear y1 y2 y3 y4 y5 q1 q2 q3 q4 q5 b1 b2 b3 b4 b5 BL i2 i4 r1 r3 r5 hb8 b12 b' N1 N2 N3 H12 HBW c0 c1 c2
  go_wp2_with fail
  refine (len_b h13 (by rw [List.length_append, wordN_len]; simp [N8])).mono ?_
  rintro en w13 ⟨rfl, rfl⟩
  have hl : ((N8 ++ wordN 5 4).length : Int) = 9 := by rw [List.length_append, wordN_len]; rfl
  rw [hl]
  go_wp2_with fail
  go_ret
  exact ⟨rfl, HBW'.out⟩
end Go.Proofs.Ytcfmgoilncninaa
