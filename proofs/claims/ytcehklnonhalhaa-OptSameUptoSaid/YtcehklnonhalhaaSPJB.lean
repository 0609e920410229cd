/-
  What the proofs of OptSame need: JB.
-/
import Derived.Test.YtcehklnonhalhaaSPHR
import Derived.Test.YtcehklnonhalhaaSPGbb
import Derived.Test.YtcehklnonhalhaaSPHa
import Derived.WalkSmall
import Derived.Test.YtcehklnonhalhaaSPGaa
import Derived.Deep.RegionLaw
import Derived.Test.YtcehklnonhalhaaSPGn
import Derived.Test.YtcehklnonhalhaaSPGx
import Derived.Deep.Quiet
import Derived.OrdersHeld
import Derived.Below
import Derived.BigQuiet
import Derived.Deep.RegionHeld3
import Derived.Test.YtcehklnonhalhaaSPGr
import Derived.Test.YtcehklnonhalhaaSPGt
import Derived.Test.YtcehklnonhalhaaSPLex
import Derived.Test.YtcehklnonhalhaaSPGC
set_option linter.unusedVariables false
namespace Go.Proofs.Ytcehklnonhalhaa
set_option maxRecDepth 4000
theorem nodup_le : ∀ (n : Nat) (L : List Nat), L.Nodup → (∀ x ∈ L, x < n) → L.length ≤ n
 | 0, L, _, h => by
  cases L with
  | nil => exact Nat.le_refl _
  | cons x L => exact absurd (h x (List.mem_cons_self ..)) (by omega)
 | n + 1, L, hn, h => by
  by_cases hm : n ∈ L
  ·have := nodup_le n (L.erase n) (hn.erase n) fun x hx => by
    have h1 := (hn.mem_erase_iff).1 hx
    have := h x h1.2
    have := h1.1
    omega
   rw [List.length_erase_of_mem hm] at this
   omega
  ·have := nodup_le n L hn fun x hx => by
    have h1 := h x hx
    have : x ≠ n := fun e => hm (e ▸ hx)
    omega
   omega
theorem ord_snoc {dep : Nat → List Nat} : ∀ {L : List Nat} {q : Nat}, Ord dep L → q ∉ L → (∀ p ∈ L, q ∉ dep p) → q ∉ dep q → Ord dep (L ++ [q])
 | [], q, _, _, _, h => ⟨by simp, fun j hj => ⟨fun e => h (e ▸ hj), by simp⟩, trivial⟩
 | p :: L, q, ho, h1, h2, h3 => by
  obtain ⟨o1, o2, o3⟩ := ho
  refine ⟨?_, fun j hj => ⟨(o2 j hj).1, ?_⟩, ord_snoc o3 (fun hm => h1 (List.mem_cons_of_mem _ hm)) (fun p' hp => h2 p' (List.mem_cons_of_mem _ hp)) h3⟩
  ·intro hm
   rcases List.mem_append.1 hm with hm | hm
   ·exact o1 hm
   ·rw [List.mem_singleton] at hm
    exact h1 (hm ▸ List.mem_cons_self ..)
  ·intro hm
   rcases List.mem_append.1 hm with hm | hm
   ·exact (o2 j hj).2 hm
   ·rw [List.mem_singleton] at hm
    exact h2 p (List.mem_cons_self ..) (hm ▸ hj)
def deps (N : List Nd) (q : Nat) : List Nat := needS (N.getD q nd0)
structure Odr (N : List Nd) (L : List Nat) : Prop where
  nd : L.Nodup
  mem : ∀ i, i ∈ L ↔ i < N.length
  ord : Ord (deps N) L
theorem Od.odr {N : List Nd} {f : Nat → Nat} {L : List Nat} (h : Od N f L) : Odr N L :=
 ⟨h.nd, h.mem, by have := h.ord fun _ => true; rwa [List.filter_eq_self.2 (fun _ _ => rfl)] at this⟩
theorem odr_sol {N : List Nd} {L : List Nat} (ho : Odr N L) {n : Int} (hf : N.all (formedS n) = true) (st inn : List Int) : Sol N st inn (refR N (nI L) st inn (nI L).length) := by
 rw [refR_nI]
 refine ⟨by rw [runL_len, List.length_replicate], fun i hi => ?_⟩
 have h := runL_at (h := fun q u => nodeS (N.getD q nd0) st inn q u) (dep := deps N) L (List.replicate N.length 0) (fun q hq u v huv => node_dep (formed_at hf ((ho.mem q).1 hq)) st inn q huv) ho.ord (fun q hq => by rw [List.length_replicate]; exact (ho.mem q).1 hq)
 exact h.1 i ((ho.mem i).2 hi)
theorem deps_lt {N : List Nd} {n : Nat} (hf : N.all (formedS n) = true) {q j : Nat} (hq : q < N.length) (hj : j ∈ deps N q) : j < n := need_lt (formed_at hf hq) j hj
theorem deps_f {N : List Nd} {f : Nat → Nat} (hf : All N f) {q j : Nat} (hq : q < N.length) (hj : j ∈ deps N q) : f j < f q := (hneed_lt hf hq hj).1
structure Dfs (N : List Nd) (f : Nat → Nat) (st : List Int) (L S : List Nat) : Prop where
  len : st.length = N.length
  val : ∀ (i : Nat) (v : Int), st[i]? = some v → v = 0 ∨ v = 1 ∨ v = 2
  nd : L.Nodup
  two : ∀ i, i ∈ L ↔ st[i]? = some 2
  ord : Ord (deps N) L
  cl : ∀ p ∈ L, ∀ j ∈ deps N p, j ∈ L
  one : ∀ i, st[i]? = some 1 → i ∈ S
  dn : S.Pairwise (fun a b => f b < f a)
  lt : ∀ i ∈ S, i < N.length
  nt : ∀ i ∈ S, st[i]? ≠ some 2
section
variable {N : List Nd} {f : Nat → Nat} {st : List Int} {L S : List Nat} {q : Nat}
theorem Dfs.start (N : List Nd) (f : Nat → Nat) : Dfs N f (List.replicate N.length 0) [] [] where
 len := by simp
 val i v h := by
  rw [List.getElem?_replicate] at h
  split at h
  ·injection h with h; exact .inl h.symm
  ·cases h
 nd := List.nodup_nil
 two i := by
  rw [List.getElem?_replicate]
  split <;> simp
 ord := trivial
 cl := fun p hp => by cases hp
 one i h := by
  rw [List.getElem?_replicate] at h
  split at h
  ·injection h with h; omega
  ·cases h
 dn := List.Pairwise.nil
 lt := fun i hi => by cases hi
 nt := fun i hi => by cases hi
theorem Dfs.begin_ (h : Dfs N f st L []) {i : Nat} (hi : st[i]? = some 0) : Dfs N f st L [i] where
 len := h.len
 val := h.val
 nd := h.nd
 two := h.two
 ord := h.ord
 cl := h.cl
 one j hj := by have := h.one j hj; cases this
 dn := List.pairwise_singleton _ _
 lt j hj := by
  rw [List.mem_singleton] at hj
  subst hj
  rw [← h.len]
  exact (List.getElem?_eq_some_iff.1 hi).1
 nt j hj := by
  rw [List.mem_singleton] at hj
  subst hj
  rw [hi]
  intro e
  injection e with e
  omega
theorem Dfs.no1 (h : Dfs N f st L []) {i : Nat} {v : Int} (hi : st[i]? = some v) : v = 0 ∨ v = 2 := by
 rcases h.val i v hi with e | e | e
 ·exact .inl e
 ·subst e
  have := h.one i hi
  cases this
 ·exact .inr e
theorem Dfs.top (h : Dfs N f st L (S ++ [q])) {v : Int} (hv : st[q]? = some v) : v = 0 ∨ v = 1 := by
 rcases h.val q v hv with e | e | e
 ·exact .inl e
 ·exact .inr e
 ·subst e
  exact absurd hv (h.nt q (by simp))
theorem Dfs.zero (h : Dfs N f st L (S ++ [q])) (ha : All N f) {p : Nat} (hp : p ∈ deps N q) {v : Int} (hv : st[p]? = some v) (h2 : v < 2) : v = 0 := by
 have hq : q < N.length := h.lt q (by simp)
 have hlt := deps_f ha hq hp
 rcases h.val p v hv with e | e | e
 ·exact e
 ·subst e
  have hm := h.one p hv
  have hd := h.dn
  rw [List.pairwise_append] at hd
  rcases List.mem_append.1 hm with hm | hm
  ·have := hd.2.2 p hm q (by simp)
   omega
  ·rw [List.mem_singleton] at hm
   subst hm
   omega
 ·omega
theorem set_look {lv : List Int} {p : Nat} {v : Int} {i : Nat} {u : Int} (h : (lv.set p v)[i]? = some u) : (i = p ∧ u = v ∧ p < lv.length) ∨ (i ≠ p ∧ lv[i]? = some u) := by
 rw [List.getElem?_set] at h
 by_cases e : p = i
 ·subst e
  simp only [if_true] at h
  split at h
  ·rename_i hl
   injection h with h
   exact .inl ⟨rfl, h.symm, hl⟩
  ·cases h
 ·rw [if_neg e] at h
  exact .inr ⟨fun h => e h.symm, h⟩
theorem set_same {lv : List Int} {p : Nat} {v : Int} (h : p < lv.length) : (lv.set p v)[p]? = some v := by
 rw [List.getElem?_set, if_pos rfl, if_pos h]
theorem set_other {lv : List Int} {p : Nat} {v : Int} {i : Nat} (h : i ≠ p) : (lv.set p v)[i]? = lv[i]? := by
 rw [List.getElem?_set, if_neg fun e => h e.symm]
theorem Dfs.down (h : Dfs N f st L (S ++ [q])) (ha : All N f) {p : Nat} (hp : p ∈ deps N q) (hv : st[p]? = some 0) : Dfs N f (st.set q 1) L (S ++ [q] ++ [p]) := by
 have hq : q < N.length := h.lt q (by simp)
 have hq2 := h.nt q (by simp)
 have hlt := deps_f ha hq hp
 have hpn : p < N.length := by rw [← h.len]; exact (List.getElem?_eq_some_iff.1 hv).1
 have hne : p ≠ q := fun e => by subst e; omega
 refine ⟨by rw [List.length_set, h.len], ?_, h.nd, ?_, h.ord, h.cl, ?_, ?_, ?_, ?_⟩
 ·intro i v hi
  rcases set_look hi with ⟨_, e, _⟩ | ⟨_, e⟩
  ·exact .inr (.inl e)
  ·exact h.val i v e
 ·intro i
  rw [h.two i]
  constructor
  ·intro hi
   have : i ≠ q := fun e => hq2 (e ▸ hi)
   rw [set_other this]
   exact hi
  ·intro hi
   rcases set_look hi with ⟨_, e, _⟩ | ⟨_, e⟩
   ·omega
   ·exact e
 ·intro i hi
  rcases set_look hi with ⟨e, _, _⟩ | ⟨_, e⟩
  ·subst e; simp
  ·have := h.one i e
   simp only [List.mem_append, List.mem_singleton] at this ⊢
   exact .inl this
 ·rw [List.pairwise_append]
  refine ⟨h.dn, List.pairwise_singleton _ _, ?_⟩
  intro a hm b hb
  rw [List.mem_singleton] at hb
  subst hb
  have hd := h.dn
  rw [List.pairwise_append] at hd
  rcases List.mem_append.1 hm with hm | hm
  ·have := hd.2.2 a hm q (by simp)
   omega
  ·rw [List.mem_singleton] at hm
   subst hm
   exact hlt
 ·intro i hi
  rcases List.mem_append.1 hi with hi | hi
  ·exact h.lt i hi
  ·rw [List.mem_singleton] at hi
   subst hi
   exact hpn
 ·intro i hi e
  rcases set_look e with ⟨_, e, _⟩ | ⟨hn, e⟩
  ·omega
  ·rcases List.mem_append.1 hi with hi | hi
   ·exact h.nt i hi e
   ·rw [List.mem_singleton] at hi
    subst hi
    rw [hv] at e
    injection e with e
    omega
theorem Dfs.up (h : Dfs N f st L (S ++ [q])) (ha : All N f) (hd : ∀ j ∈ deps N q, j ∈ L) : Dfs N f ((st.set q 1).set q 2) (L ++ [q]) S := by
 have hq : q < N.length := h.lt q (by simp)
 have hq2 := h.nt q (by simp)
 have hql : q ∉ L := fun e => hq2 ((h.two q).1 e)
 have hp := h.dn
 rw [List.pairwise_append] at hp
 have hSq : ∀ i ∈ S, i ≠ q := fun i hi e => by
  have := hp.2.2 i hi q (by simp)
  subst e
  omega
 rw [List.set_set]
 refine ⟨by rw [List.length_set, h.len], ?_, ?_, ?_, ?_, ?_, ?_, hp.1, fun i hi => h.lt i (by simp [hi]), ?_⟩
 ·intro i v hi
  rcases set_look hi with ⟨_, e, _⟩ | ⟨_, e⟩
  ·exact .inr (.inr e)
  ·exact h.val i v e
 ·rw [List.nodup_append]
  refine ⟨h.nd, by simp, ?_⟩
  intro a ha b hb
  rw [List.mem_singleton] at hb
  subst hb
  intro e
  subst e
  exact hql ha
 ·intro i
  rw [List.mem_append, List.mem_singleton]
  constructor
  ·rintro (hi | rfl)
   ·rw [set_other (fun e : i = q => hql (by rw [← e]; exact hi))]
    exact (h.two i).1 hi
   ·exact set_same (by rw [h.len]; exact hq)
  ·intro hi
   rcases set_look hi with ⟨e, _, _⟩ | ⟨_, e⟩
   ·exact .inr e
   ·exact .inl ((h.two i).2 e)
 ·refine ord_snoc h.ord hql (fun p hp hm => hql (h.cl p hp q hm)) fun hm => ?_
  have := deps_f ha hq hm
  omega
 ·intro p hp j hj
  rw [List.mem_append] at hp ⊢
  rcases hp with hp | hp
  ·exact .inl (h.cl p hp j hj)
  ·rw [List.mem_singleton] at hp
   subst hp
   exact .inl (hd j hj)
 ·intro i hi
  rcases set_look hi with ⟨_, e, _⟩ | ⟨hn, e⟩
  ·omega
  ·have := h.one i e
   rw [List.mem_append, List.mem_singleton] at this
   rcases this with this | this
   ·exact this
   ·exact absurd this hn
 ·intro i hi e
  rw [set_other (hSq i hi)] at e
  exact h.nt i (by simp [hi]) e
theorem Dfs.room (h : Dfs N f st L S) : L.length + S.length ≤ N.length := by
 have := nodup_le N.length (L ++ S) (by
  rw [List.nodup_append]
  refine ⟨h.nd, h.dn.imp (fun h e => by subst e; omega), ?_⟩
  intro a ha b hb e
  subst e
  exact h.nt a hb ((h.two a).1 ha)) (by
  intro x hx
  rcases List.mem_append.1 hx with hx | hx
  ·rw [← h.len]
   exact (List.getElem?_eq_some_iff.1 ((h.two x).1 hx)).1
  ·exact h.lt x hx)
 rwa [List.length_append] at this
theorem Dfs.odr (h : Dfs N f st L []) (hv : ∀ i < N.length, st[i]? = some 2) : Odr N L where
 nd := h.nd
 mem i := by
  rw [h.two i]
  constructor
  ·intro hi
   rw [← h.len]
   exact (List.getElem?_eq_some_iff.1 hi).1
  ·exact hv i
 ord := h.ord
end
end Go.Proofs.Ytcehklnonhalhaa
namespace Go.Proofs.Ytcehklnonhalhaa
open Go.RowKit
set_option maxRecDepth 4000
theorem i64_i : (Try.prog.info? 3).map (fun i => (i.zero, i.size, i.bytes)) = some (some (.int .i64 0), 1, 8) := by kernel_rfl
def slen : Value → Nat
 | .slice _ n _ => n
 | _ => 0
structure Ds (w : World) (B g : Nat) (ov sv : Value) (st : List Int) (L S : List Nat) : Prop where
  st : Own w g 3 (ivs st)
  o : Grow w B 3 ov (ivs (nI L))
  s : Grow w B 3 sv (ivs (nI S))
  og : ov.ownBlock ≠ some g
  sg : sv.ownBlock ≠ some g
  os : ∀ b, ov.ownBlock = some b → sv.ownBlock ≠ some b
  lb : B ≤ g
  hb : B ≤ w.heap.size
section
variable {w w' : World} {B g : Nat} {ov sv : Value} {st : List Int} {L S : List Nat}
theorem Ds.on (h : Ds w B g ov sv st L S) (hb : Below w.heap.size w w') : Ds w' B g ov sv st L S :=
 ⟨h.st.below hb h.st.lt, row_on h.o hb, row_on h.s hb, h.og, h.sg, h.os, h.lb, Nat.le_trans h.hb hb.size⟩
theorem Ds.set (h : Ds w B g ov sv st L S) (k : Nat) (x : Int) : Ds (w.setCell ⟨g, k, none⟩ (.int .i64 x)) B g ov sv (st.set k x) L S :=
 ⟨by rw [← ivs_set]; exact h.st.put k _, h.o.kept (grown_set w ⟨g, k, none⟩ _) (fun b hb e => h.og (hb.trans e.symm)), h.s.kept (grown_set w ⟨g, k, none⟩ _) (fun b hb e => h.sg (hb.trans e.symm)), h.og, h.sg, h.os, h.lb, Nat.le_trans h.hb (grown_set w ⟨g, k, none⟩ (.int .i64 x)).size⟩
theorem Ds.pushS (h : Ds w B g ov sv st L S) {g' cap n : Nat} {p : Nat} (hr : Grow w' B 3 (.slice (some ⟨g', 0, none⟩) n cap) (ivs (nI S) ++ [.int .i64 (p : Int)])) (hg : w.grownBy w' sv.ownBlock) (hw : sv.ownBlock = some g' ∨ w.heap.size ≤ g') : Ds w' B g ov (.slice (some ⟨g', 0, none⟩) n cap) st L (S ++ [p]) := by
 have e : ivs (nI (S ++ [p])) = ivs (nI S) ++ [.int .i64 (p : Int)] := by unfold ivs nI; simp
 refine ⟨h.st.kept hg (fun e => h.sg e.symm), h.o.kept hg (fun b hb e => h.os b hb e), by rw [e]; exact hr, h.og, ?_, ?_, h.lb, Nat.le_trans h.hb hg.size⟩
 ·intro e
  have e : g' = g := by injection e
  rcases hw with h1 | h1
  ·exact h.sg (by rw [h1, e])
  ·have := h.st.lt
   omega
 ·intro b hb e
  have e : g' = b := by injection e
  rcases hw with h1 | h1
  ·exact h.os b hb (by rw [h1, e])
  ·have := (h.o.lt b hb).2
   omega
theorem Ds.pushO (h : Ds w B g ov sv st L S) {g' cap n : Nat} {p : Nat} (hr : Grow w' B 3 (.slice (some ⟨g', 0, none⟩) n cap) (ivs (nI L) ++ [.int .i64 (p : Int)])) (hg : w.grownBy w' ov.ownBlock) (hw : ov.ownBlock = some g' ∨ w.heap.size ≤ g') : Ds w' B g (.slice (some ⟨g', 0, none⟩) n cap) sv st (L ++ [p]) S := by
 have e : ivs (nI (L ++ [p])) = ivs (nI L) ++ [.int .i64 (p : Int)] := by unfold ivs nI; simp
 refine ⟨h.st.kept hg (fun e => h.og e.symm), by rw [e]; exact hr, h.s.kept hg (fun b hb e => h.os b e hb), ?_, h.sg, ?_, h.lb, Nat.le_trans h.hb hg.size⟩
 ·intro e
  have e : g' = g := by injection e
  rcases hw with h1 | h1
  ·exact h.og (by rw [h1, e])
  ·have := h.st.lt
   omega
 ·intro b hb e
  have hb : g' = b := by injection hb
  rcases hw with h1 | h1
  ·exact h.os b (by rw [h1, hb]) e
  ·have := (h.s.lt b e).2
   omega
theorem Ds.ofO (h : Ds w B g ov sv st L S) : ∃ A c, ov = .slice A L.length c ∧ Sw A L.length c ∧ Is w A L.length (nI L) := by
 obtain ⟨A, c, e, h1, _, h2⟩ := Grow.at h.o (n := L.length) (by unfold ivs nI; simp)
 exact ⟨A, c, e, h1, h2.is⟩
theorem Ds.last {q : Nat} (h : Ds w B g ov sv st L (S ++ [q])) : ∃ b c, sv = .slice (some ⟨b, 0, none⟩) (S.length + 1) c ∧ S.length + 1 ≤ c ∧ w.cell? ⟨b, S.length, none⟩ = some (.int .i64 (q : Int)) ∧ Ds w B g ov (.slice (some ⟨b, 0, none⟩) S.length c) st L S := by
 have hs := h.s
 have e : ivs (nI (S ++ [q])) = ivs (nI S) ++ [.int .i64 (q : Int)] := by unfold ivs nI; simp
 have hl : (ivs (nI S)).length = S.length := by unfold ivs nI; simp
 unfold Grow at hs
 rw [e, List.length_append, hl] at hs
 have hs0 := hs
 rcases hs with ⟨_, ⟨_, hn0⟩ | ⟨b, c, cur, rfl, _⟩⟩
 ·exact absurd hn0 (by simp)
 have hs := hs0
 clear hs0
 have hc := hs.cellAt S.length (by simp)
 rw [List.getElem?_append_right (by rw [hl]; exact Nat.le_refl _), hl, Nat.sub_self] at hc
 obtain ⟨A', c', ev, sw, _, _⟩ := row_at hs
 injection ev with ea en ec
 subst ea ec
 refine ⟨b, c, rfl, sw.1, hc, ⟨h.st, h.o, ?_, h.og, h.sg, h.os, h.lb, h.hb⟩⟩
 unfold Grow
 rw [hl]
 exact ownsRow_pop (by rw [hl, Nat.mul_one]) hs
theorem Ds.stk (h : Ds w B g ov sv st L S) : slen sv = S.length := by
 obtain ⟨A, c, rfl, _⟩ := Grow.at h.s (n := S.length) (by unfold ivs nI; simp)
 rfl
theorem Ds.out_ (h : Ds w B g ov sv st L S) : slen ov = L.length := by
 obtain ⟨A, c, rfl, _⟩ := Grow.at h.o (n := L.length) (by unfold ivs nI; simp)
 rfl
end
theorem needs_at {N : List Nd} {q : Nat} {x : Nd} (hx : N[q]? = some x) (h7 : x.k ≠ 7) {n : Nat} (hf : N.all (formedS n) = true) : ∀ (j : Nat) (y : Int), (usesS x)[j]? = some y → ∃ p : Nat, y = (p : Int) ∧ p < n ∧ p ∈ deps N q := by
 intro j y hy
 have hm : y ∈ usesS x := List.mem_of_getElem? hy
 have hfx := List.all_eq_true.1 hf x (List.mem_of_getElem? hx)
 have h1 : placeS n y = true := by
  unfold formedS at hfx
  simp only [Bool.and_eq_true] at hfx
  exact List.all_eq_true.1 hfx.2.2.1 y hm
 unfold placeS at h1
 simp only [Bool.and_eq_true, decide_eq_true_eq] at h1
 refine ⟨y.toNat, by omega, by omega, ?_⟩
 unfold deps needS
 rw [getD_of hx, if_neg h7]
 exact List.mem_map_of_mem hm
theorem needs_all {N : List Nd} {q : Nat} {x : Nd} (hx : N[q]? = some x) {P : Nat → Prop} (h : ∀ y ∈ usesS x, P y.toNat) : ∀ j ∈ deps N q, P j := by
 intro j hj
 unfold deps needS at hj
 rw [getD_of hx] at hj
 split at hj
 ·cases hj
 ·obtain ⟨y, hy, rfl⟩ := List.mem_map.1 hj
  exact h y hy
theorem needs_7 {N : List Nd} {q : Nat} {x : Nd} (hx : N[q]? = some x) (h7 : x.k = 7) : deps N q = [] := by
 unfold deps needS
 rw [getD_of hx, if_pos h7]
set_option maxRecDepth 20000 in
set_option maxHeartbeats 16000000 in
theorem fast_as {An Ai Ao : Option Addr} {nn cn ni ci no co : Nat} {N : List Nd} {I O : List Pt} {w : World} (h : Nt w An nn cn Ai ni ci Ao no co N I O) (hf : N.all (formedS nn) = true) (hbt : (I ++ O).all (bitsS nn) = true) {f : Nat → Nat} (ha : All N f) :
  Calls Try.prog 43 #[.agg #[.slice An nn cn, .slice Ai ni ci, .slice Ao no co]] w fun en w' => ∃ (A : Option Addr) (c : Nat) (L : List Nat), en = .returned (.tuple #[.slice A L.length c, .bool true]) ∧ Is w' A L.length (nI L) ∧ Sw A L.length c ∧ Odr N L ∧ Below w.heap.size w w' := by
 have HF := Lib.hid hf
 have HA := Lib.hid ha
 have HBT : Hid ((N.all (formedS nn) && (I ++ O).all (bitsS nn)) = true) := Lib.hid (by rw [hf, hbt]; rfl)
 have HNL : Hid (N.length = nn) := Lib.hid h.n.1
 have hn := h.hn
 clear hf hbt ha
 go_enter Try.func43, Try.ntmps43
 go_upto_region 1 with fail
 obtain ⟨w1, e_w1, z0, b1⟩ := zmB w [.slice An nn cn, .slice Ai ni ci, .slice Ao no co] 25
 rw [e_w1]
 clear e_w1
 obtain ⟨z0c0, z0c1, z0c2⟩ := z0.zb3
 go_wp2_with fail
 refine (rformed_as (h.on b1) true HBT.out).mono ?_
 rintro en w2 ⟨rfl, b⟩
 replace z0 := z0.on b
 have BW := Below.step b1 b
 have hN := h.n.on BW
 clear z0c0 z0c1 z0c2 b1 b h
 have z0c0 := z0.2 0 _ rfl
 go_upto_region 4 with (at_make; refine wpList_zeros _ rfl _ _ 39 rfl 3 (.int .i64 0) 8 Try.underlying39 i64_i rfl (by omega) _ nn rfl rfl rfl (by omega) ?_; intro w3 ho b3 hz3)
 have B3 : Below w2.heap.size w2 w3 := b3
 clear b3 hz3 z0c0
 go_upto_region 5 with fail
 obtain ⟨w4, e_w4⟩ : ∃ w', w3.alloc (.cells #[] 3) = w' := ⟨_, rfl⟩
 have b4 : Below w3.heap.size w3 w4 := e_w4 ▸ below_lit _ _
 have o4 : Grow w4 w2.heap.size 3 (.slice (some ⟨w3.heap.size, 0, none⟩) 0 0) [] := e_w4 ▸ Grow.made w3 _ B3.size
 have s4 : w3.heap.size < w4.heap.size := by rw [← e_w4]; simp
 rw [e_w4]
 clear e_w4
 go_upto_region 6 with fail
 obtain ⟨w5, e_w5⟩ : ∃ w', w4.alloc (.cells #[] 3) = w' := ⟨_, rfl⟩
 have b5 : Below w4.heap.size w4 w5 := e_w5 ▸ below_lit _ _
 have o5 : Grow w5 w2.heap.size 3 (.slice (some ⟨w4.heap.size, 0, none⟩) 0 0) [] := e_w5 ▸ Grow.made w4 _ (Nat.le_trans B3.size b4.size)
 rw [e_w5]
 clear e_w5
 have hgl : w2.heap.size < w3.heap.size := Own.lt ho
 have D5 : Ds w5 w2.heap.size w2.heap.size (.slice (some ⟨w3.heap.size, 0, none⟩) 0 0) (.slice (some ⟨w4.heap.size, 0, none⟩) 0 0) (List.replicate nn 0) [] [] := by
  refine ⟨?_, row_on o4 b5, o5, ?_, ?_, ?_, Nat.le_refl _, Nat.le_trans B3.size (Nat.le_trans b4.size b5.size)⟩
  ·have := ho.below (Below.step b4 b5) hgl
   unfold ivs
   simpa using this
  ·intro e
   have e := Option.some.inj e
   simp only [] at e
   omega
  ·intro e
   have e := Option.some.inj e
   simp only [] at e
   omega
  ·intro b e e2
   have e := Option.some.inj e
   have e2 := Option.some.inj e2
   simp only [] at e e2
   omega
 have F5 : Dfs N f (List.replicate nn 0) [] [] := by rw [← HNL.out]; exact Dfs.start N f
 have B5 := Below.step (Below.step B3 b4) b5
 have HN := Lib.hid hN
 have Z0 := Lib.hid z0
 have HB2 := Lib.hid BW
 clear ho o4 o5 s4 hgl b4 b5 B3 hN z0 BW
 go_wp2_with fail
 go_loopw [5, 6, 7] (fun ov' sv' iv wr => ∃ (ov sv : Value) (i : Nat) (st : List Int) (L : List Nat), ov = ov' ∧ sv = sv' ∧ i ≤ nn ∧ iv = .int .i64 i ∧ Hid (Ds wr w2.heap.size w2.heap.size ov sv st L []) ∧ Hid (Dfs N f st L []) ∧ Hid (∀ k < i, st[k]? = some 2) ∧ Hid (Below w2.heap.size w2 wr)) (fun _ _ iv _ => nn - (intOf iv).toNat)
 case atStart => exact ⟨_, _, 0, _, [], rfl, rfl, Nat.zero_le _, rfl, Lib.hid D5, Lib.hid F5, Lib.hid fun k hk => by omega, Lib.hid B5⟩
 case round =>
  clear D5 F5 B5
  obtain ⟨ov, sv, i, st, L, rfl, rfl, hi, rfl, HD, HFS, H2, HB⟩ := hrel
  have z0c0 := (Z0.out.on HB.out).2 0 _ rfl
  by_cases hlt : i < nn
  ·have i0 : (0 : Int) ≤ (i : Int) := by omega
   have i1 : (i : Int) < (nn : Int) := by omega
   obtain ⟨y, hy⟩ := look_ex (HFS.out.len.trans HNL.out) hlt
   have cy := (HD.out.st.cell i).trans (ivs_at hy)
   obtain ⟨A6, c6, rfl, sw6, _, _⟩ := Grow.at HD.out.s (n := 0) rfl
   rcases HFS.out.no1 hy with h0 | h0
   ·subst h0
    have HY := Lib.hid hy
    have hgr := HD.out.s
    have hsz := HD.out.hb
    clear hy
    go_wp2_with (at_builtin; refine wpList_push3 _ rfl _ _ 39 rfl elm_int (by omega) w2.heap.size _ _ rfl hgr _ rfl rfl (by simp [ivs, nI]) hsz ?_; intro g7 cap7 w7 hr7 hG7 hw7)
    have D7 := Lib.hid (HD.out.pushS hr7 hG7 hw7)
    have F7 := Lib.hid (HFS.out.begin_ HY.out)
    have B7 : Below w2.heap.size w2 w7 := HB.out.grown hG7 HB.out.size fun k hk => (hgr.lt k hk).1
    clear hgr hsz hr7 hG7 hw7 HD HFS HB cy sw6 z0c0
    go_loopw [5, 6] (fun ov' sv' wr => ∃ (ov sv : Value) (st : List Int) (L S : List Nat), ov = ov' ∧ sv = sv' ∧ Hid (Ds wr w2.heap.size w2.heap.size ov sv st L S) ∧ Hid (Dfs N f st L S) ∧ Hid (st[i]? = some 2 ∨ i ∈ S) ∧ Hid (∀ k < i, st[k]? = some 2) ∧ Hid (Below w2.heap.size w2 wr)) (fun ov sv _ => 2 * (nn - slen ov) - slen sv)
    case atStart => exact ⟨_, _, _, _, _, rfl, rfl, D7, F7, Lib.hid (.inr (List.mem_singleton.2 rfl)), H2, Lib.hid B7⟩
    case round =>
     clear D7 F7 B7 H2 HY
     obtain ⟨ov, sv, st, L, S, rfl, rfl, HD, HFS, HI, H2, HB⟩ := hrel
     rcases snoc_cases S with rfl | ⟨V, q, rfl⟩
     ·obtain ⟨A6, c6, rfl, sw6, _, _⟩ := Grow.at HD.out.s (n := 0) rfl
      go_wp2_with fail
      go_roundw
      case rel =>
       refine ⟨_, _, i + 1, st, L, rfl, rfl, by omega, by go_num, HD, HFS, Lib.hid fun k hk => ?_, HB⟩
       rcases HI.out with h | h
       ·by_cases e : k = i
        ·rw [e]; exact h
        ·exact H2.out k (by omega)
       ·cases h
      case measure => simp [intOf]; omega
     ·obtain ⟨b6, c6, rfl, hc6, cq, hpop⟩ := HD.out.last
      have HP := Lib.hid hpop
      have HO : Hid (slen ov = L.length) := Lib.hid HD.out.out_
      have HQN : Hid (q < nn) := Lib.hid (by rw [← HNL.out]; exact HFS.out.lt q (by simp))
      have hqn := HQN.out
      obtain ⟨bn, off, x1, x2, x3, x4, eA, HX, n0, n1, n2, n3⟩ := (HN.out.on HB.out).at hqn
      subst eA
      have z0c0 := (Z0.out.on HB.out).2 0 _ rfl
      have HRM := HFS.out.room
      rw [List.length_append, List.length_singleton, HNL.out] at HRM
      have j0 : (0 : Int) ≤ (q : Int) := by omega
      have j1 : (q : Int) < (nn : Int) := by omega
      have q3 : IntKind.i64.wrap (((V.length : Nat) : Int) + 1 - 1) = (V.length : Int) := by rw [IntKind.wrap_i64]; omega
      have j2 : (0 : Int) ≤ (V.length : Int) := by omega
      have j3 : (V.length : Int) < (V.length : Int) + 1 := by omega
      clear hpop
      obtain ⟨wo, rfl⟩ : ∃ x, x = wr := ⟨_, rfl⟩
      go_upto_region 13 with fail
      go_cut [9] from 37 to 112 (fun a wx => a = .int .i64 (-1) ∧ wo = wx)
      case first =>
       go_wp2_with fail
       go_meet
       exact ⟨rfl, rfl⟩
      obtain ⟨rfl, rfl⟩ := hcut
      apply_assumption
      go_step
      go_cut [9, 10, 11] from 37 to 112 (fun a _ _ wx => ∃ d : Int, a = .int .i64 d ∧ Hid ((d = -1 ∧ ∀ j ∈ deps N q, st[j]? = some 2) ∨ ∃ p : Nat, d = (p : Int) ∧ p < nn ∧ p ∈ deps N q ∧ st[p]? = some 0) ∧ Hid (Below wo.heap.size wo wx))
      case first =>
       by_cases h7 : x1 = 7
       ·subst h7
        have HD7 : Hid (∀ j ∈ deps N q, st[j]? = some 2) := Lib.hid fun j hj => by rw [needs_7 HX.out rfl] at hj; cases hj
        go_wp2_with fail
        go_meet
        exact ⟨-1, rfl, Lib.hid (.inl ⟨rfl, HD7.out⟩), Lib.hid (Below.refl _ _)⟩
       ·have e7 : (x1 != 7) = true := by simpa using h7
        have H7 := Lib.hid h7
        clear h7
        go_wp2_with fail
        refine (ruses_as x1 x2 x3 x4 _).mono ?_
        rintro en w7 ⟨Al, m, cl, rfl, hl, hm3, b7⟩
        have D7 := Lib.hid (HD.out.on b7)
        have HAT := Lib.hid (needs_at HX.out H7.out HF.out)
        go_wp2_with fail
        go_loopw [9, 11] (fun dv kv w9 => ∃ (j : Nat) (d : Int), j ≤ m ∧ kv = .int .i64 j ∧ dv = .int .i64 d ∧ Hid ((d = -1 ∧ ∀ y ∈ (usesS ⟨x1, x2, x3, x4⟩).take j, st[y.toNat]? = some 2) ∨ ∃ p : Nat, d = (p : Int) ∧ p < nn ∧ p ∈ deps N q ∧ st[p]? = some 0) ∧ Hid (Below w7.heap.size w7 w9)) (fun _ kv _ => m - (intOf kv).toNat)
        case atStart => exact ⟨0, -1, Nat.zero_le _, rfl, rfl, Lib.hid (.inl ⟨rfl, fun y hy => by simp at hy⟩), Lib.hid (Below.refl _ _)⟩
        case round =>
         obtain ⟨j, d, hj, rfl, rfl, HDJ, HB9⟩ := hrel
         by_cases hjm : j < m
         ·obtain ⟨b3, o3, y, rfl, HY3, c3⟩ := (hl.on HB9.out).at hjm
          obtain ⟨p, rfl, hp, hpd⟩ := HAT.out j y HY3.out
          obtain ⟨v, hv⟩ := look_ex (HFS.out.len.trans HNL.out) hp
          have HV := Lib.hid hv
          have HPD := Lib.hid hpd
          have cv := ((D7.out.on HB9.out).st.cell p).trans (ivs_at hv)
          have k0 : (0 : Int) ≤ (j : Int) := by omega
          have k1 : (j : Int) < (m : Int) := by omega
          have k2 : (0 : Int) ≤ (p : Int) := by omega
          have k3 : (p : Int) < (nn : Int) := by omega
          clear hv hpd
          by_cases hv2 : v < 2
          ·obtain rfl := HFS.out.zero HA.out HPD.out HV.out hv2
           clear hv2
           go_wp2_with fail
           go_roundw
           case rel => exact ⟨j + 1, (p : Int), by omega, by go_num, rfl, Lib.hid (.inr ⟨p, rfl, hp, HPD.out, HV.out⟩), HB9⟩
           case measure => simp [intOf]; omega
          ·have hv2e : v = 2 := by
            rcases HFS.out.val p v HV.out with e | e | e <;> omega
           subst hv2e
           go_wp2_with fail
           go_roundw
           case rel =>
            refine ⟨j + 1, d, by omega, by go_num, rfl, Lib.hid ?_, HB9⟩
            rcases HDJ.out with ⟨e, h⟩ | h
            ·refine .inl ⟨e, fun y hy => ?_⟩
             rw [List.take_add_one, HY3.out] at hy
             rcases List.mem_append.1 hy with hy | hy
             ·exact h y hy
             ·have hy : y = (p : Int) := by simpa using hy
              rw [hy, Int.toNat_natCast]
              exact HV.out
            ·exact .inr h
           case measure => simp [intOf]; omega
         ·obtain rfl : j = m := by omega
          go_wp2_with fail
          go_meet
          refine ⟨d, rfl, Lib.hid ?_, Lib.hid (Below.step b7 HB9.out)⟩
          rcases HDJ.out with ⟨e, h⟩ | h
          ·rw [List.take_of_length_le (by rw [hl.1]; exact Nat.le_refl _)] at h
           exact .inl ⟨e, needs_all HX.out h⟩
          ·exact .inr h
      obtain ⟨d, rfl, HDD, HB8⟩ := hcut
      obtain ⟨w8, rfl⟩ : ∃ x, x = wc := ⟨_, rfl⟩
      have D8 := Lib.hid (HD.out.on HB8.out)
      have P8 := Lib.hid (HP.out.on HB8.out)
      have HB28 := Lib.hid (Below.step HB.out HB8.out)
      obtain ⟨yq, hyq⟩ := look_ex (HFS.out.len.trans HNL.out) hqn
      have cyq := (D8.out.st.cell q).trans (ivs_at hyq)
      have fyq := D8.out.st.free q
      obtain ⟨w9, e_w9⟩ : ∃ w', w8.setCell ⟨w2.heap.size, q, none⟩ (.int .i64 1) = w' := ⟨_, rfl⟩
      have D9 : Hid (Ds w9 w2.heap.size w2.heap.size ov (.slice (some ⟨b6, 0, none⟩) (V.length + 1) c6) (st.set q 1) L (V ++ [q])) := Lib.hid (e_w9 ▸ D8.out.set q 1)
      have P9 : Hid (Ds w9 w2.heap.size w2.heap.size ov (.slice (some ⟨b6, 0, none⟩) V.length c6) (st.set q 1) L V) := Lib.hid (e_w9 ▸ P8.out.set q 1)
      have HB9 : Hid (Below w2.heap.size w2 w9) := Lib.hid (e_w9 ▸ HB28.out.setCell (Nat.le_refl _) _)
      have HT := HFS.out.top hyq
      have HYQ := Lib.hid hyq
      clear hyq HD HP HB HB8 HB28 n0 n1 n2 n3 z0c0 cq
      apply_assumption
      go_step
      go_cut [8] from 37 to 112 (fun a wx => a = .int .i64 q ∧ w9 = wx)
      case first =>
       rcases HT with h0 | h0
       ·subst h0
        go_wp2_with fail
        go_meet
        first | exact ⟨rfl, rfl⟩ | exact ⟨rfl, e_w9.symm⟩
       ·subst h0
        go_wp2_with fail
        go_meet
        first | exact ⟨rfl, rfl⟩ | exact ⟨rfl, e_w9.symm⟩
      obtain ⟨rfl, rfl⟩ := hcut
      clear e_w9 cyq fyq D8 P8 HT
      have c9q : w9.cell? ⟨w2.heap.size, q, none⟩ = some (.int .i64 1) := (D9.out.st.cell q).trans (ivs_at (set_same (by rw [HFS.out.len]; rw [HNL.out]; exact hqn)))
      rcases HDD.out with ⟨rfl, hd⟩ | ⟨p, rfl, hp, hpd, hp0⟩
      ·have HUP := Lib.hid (HFS.out.up HA.out (fun j hj => (HFS.out.two j).2 (hd j hj)))
       clear hd HDD
       have hgr := P9.out.o
       have hsz := P9.out.hb
       have hll : (ivs (nI L)).length + 1 ≤ 1000000 := by
        unfold ivs nI
        rw [List.length_map, List.length_map]
        omega
       have hVc : V.length ≤ c6 := by omega
       have hVc2 : (V.length : Int) ≤ (c6 : Int) := by omega
       go_wp2_with (at_builtin; refine wpList_push3 _ rfl _ _ 39 rfl elm_int (by omega) w2.heap.size _ _ rfl hgr _ rfl rfl hll hsz ?_; intro g7 cap7 w10 hr7 hG7 hw7; have P10 := P9.out.pushO hr7 hG7 hw7; have c10 := (P10.st.cell q).trans (ivs_at (set_same (by rw [HFS.out.len]; rw [HNL.out]; exact hqn))); have f10 := P10.st.free q)
       have P11 := Lib.hid (P10.set q 2)
       have B11 := Lib.hid ((HB9.out.grown hG7 HB9.out.size fun k hk => (hgr.lt k hk).1).setCell (Nat.le_refl _) _ : Below w2.heap.size w2 (w10.setCell ⟨w2.heap.size, q, none⟩ (.int .i64 2)))
       go_roundw
       case rel =>
        refine ⟨_, _, _, _, V, rfl, rfl, P11, HUP, Lib.hid ?_, Lib.hid fun k hk => ?_, B11⟩
        ·rw [List.set_set]
         by_cases e : i = q
         ·subst e
          exact .inl (set_same (by rw [HFS.out.len, HNL.out]; exact hqn))
         ·rcases HI.out with h | h
          ·exact .inl (by rw [set_other e]; exact h)
          ·rcases List.mem_append.1 h with h | h
           ·exact .inr h
           ·exact absurd (List.mem_singleton.1 h) e
        ·rw [List.set_set]
         by_cases e : k = q
         ·subst e
          exact set_same (by rw [HFS.out.len, HNL.out]; exact hqn)
         ·rw [set_other e]
          exact H2.out k hk
       case measure =>
        have e1 := P11.out.out_
        rw [HO.out]
        simp only [slen, List.length_append, List.length_singleton] at e1 ⊢
        omega
      ·have HDN := Lib.hid (HFS.out.down HA.out hpd hp0)
       have hne : p ≠ q := by
        intro e
        have := deps_f HA.out (HFS.out.lt q (by simp)) hpd
        rw [e] at this
        omega
       have c9p : w9.cell? ⟨w2.heap.size, p, none⟩ = some (.int .i64 0) := (D9.out.st.cell p).trans (ivs_at (by rw [set_other hne]; exact hp0))
       have k2 : (0 : Int) ≤ (p : Int) := by omega
       have k3 : (p : Int) < (nn : Int) := by omega
       have hgr := D9.out.s
       have hsz := D9.out.hb
       have hll : (ivs (nI (V ++ [q]))).length + 1 ≤ 1000000 := by
        unfold ivs nI
        rw [List.length_map, List.length_map, List.length_append, List.length_singleton]
        omega
       have HRM2 := HDN.out.room
       rw [List.length_append, List.length_append, List.length_singleton, List.length_singleton, HNL.out] at HRM2
       clear hne hpd hp0 HDD c9q
       go_wp2_with (at_builtin; refine wpList_push3 _ rfl _ _ 39 rfl elm_int (by omega) w2.heap.size _ _ rfl hgr _ rfl rfl hll hsz ?_; intro g7 cap7 w10 hr7 hG7 hw7)
       have D10 := Lib.hid (D9.out.pushS hr7 hG7 hw7)
       have B10 := Lib.hid (HB9.out.grown hG7 HB9.out.size fun k hk => (hgr.lt k hk).1)
       go_roundw
       case rel =>
        refine ⟨_, _, _, L, V ++ [q] ++ [p], rfl, rfl, D10, HDN, Lib.hid ?_, Lib.hid fun k hk => ?_, B10⟩
        ·rcases HI.out with h | h
         ·have e : i ≠ q := fun e => HFS.out.nt q (by simp) (e ▸ h)
          exact .inl (by rw [set_other e]; exact h)
         ·exact .inr (List.mem_append_left _ h)
        ·have e : k ≠ q := fun e => HFS.out.nt q (by simp) (e ▸ H2.out k hk)
         rw [set_other e]
         exact H2.out k hk
       case measure =>
        have e1 := D10.out.stk
        rw [HO.out]
        simp only [slen, List.length_append, List.length_singleton] at e1 ⊢
        omega
   ·subst h0
    have z5 := (Z0.out.on HB.out).2 0 _ rfl
    go_wp2_with fail
    refine wp_loop_rounds 1 ?_
    rw [rounds_succ]
    go_wp2_with fail
    go_roundw
    case rel =>
     refine ⟨_, _, i + 1, st, L, rfl, rfl, by omega, by go_num, HD, HFS, Lib.hid fun k hk => ?_, HB⟩
     by_cases e : k = i
     ·rw [e]; exact hy
     ·exact H2.out k (by omega)
    case measure => simp [intOf]; omega
  ·obtain rfl : i = nn := by omega
   obtain ⟨A, c, rfl, sw, hI⟩ := HD.out.ofO
   have HOD := Lib.hid (HFS.out.odr (fun k hk => H2.out k (by rw [← HNL.out]; exact hk)))
   go_wp2_with fail
   go_ret2
   exact ⟨A, c, L, rfl, hI, sw, HOD.out, Below.step HB2.out HB.out⟩
end Go.Proofs.Ytcehklnonhalhaa
namespace Go.Proofs.Ytcehklnonhalhaa
open Go.RowKit
set_option maxRecDepth 4000
theorem own_tk {t : TypeId} {w w' : World} {g : Nat} {cs : List Value} (h : Own w g t cs) (hk : TK t w w') : Own w' g t cs := (hk g _ _ h).trans h
theorem own_row {t t' : TypeId} {w w' : World} {base size n g : Nat} {cs : List Value} {v : Value} {xs : List Value} (h : Own w g t cs) (hr : w.ownsRow base t' size v n xs) (hg : w.grownBy w' v.ownBlock) (ht : t ≠ t') : Own w' g t cs := own_tk h (TK.row hr hg ht)
set_option maxRecDepth 4000
/-! rows of places: of integers, in a block of integers -/
set_option maxRecDepth 4000
set_option maxRecDepth 4000
set_option maxRecDepth 4000
/-! so many lowest bits -/
set_option maxRecDepth 4000
end Go.Proofs.Ytcehklnonhalhaa
namespace Go.Proofs.Ytcehklnonhalhaa.LexS
open Go Go.RowKit
set_option maxRecDepth 4000
structure Wd (sx : Nat) (w0 : World) where
  w : World
  below : w0.grownBy w (some sx)
instance (sx : Nat) (w0 : World) : Nonempty (Wd sx w0) := ⟨⟨w0, Gb.refl _ _⟩⟩
def Rb (sx : Nat) (w0 w : World) : Prop := ∃ s : Wd sx w0, w = s.w
theorem Rb.of {sx : Nat} {w0 w : World} (h : w0.grownBy w (some sx)) : Rb sx w0 w := ⟨⟨w, h⟩, rfl⟩
theorem Rb.bel {sx : Nat} {w0 w : World} (h : Rb sx w0 w) : w0.grownBy w (some sx) := by
 obtain ⟨s, rfl⟩ := h
 exact s.below
theorem Rb.refl {sx : Nat} (w : World) : Rb sx w w := Rb.of (Gb.refl _ _)
theorem Rb.trans {sx : Nat} {a b c : World} (h : Rb sx a b) (k : Rb sx b c) : Rb sx a c := Rb.of (Gb.trans h.bel k.bel)
section
variable {sx : Nat} {P : Program} {ops : Array Oper} {md : Region.Mode} {Q : Exit → Act → World → Prop}
theorem op_past {Y : Act → Prop} {j : Nat} {oj : Oper} {d : Option Nat} {v : Value} (hj : ops[j]? = some oj) (hs : ∀ cs b, oj.op ≠ .select cs b)
  (h1 : ∀ e, d = some e → e ∉ oj.looksAt ops) (h2 : ∀ e, d = some e → oj.dst ≠ some e)
  (keep : ∀ (a : Act), Y a → ∀ u, Y (a.put oj.dst u)) (keepD : ∀ (a : Act), Y a → ∀ x, Y { a with defers := x :: a.defers })
  (hQ : ∀ c a w, Q (.panic c) (a.put d v) w → Q (.panic c) a w) {K : Act → World → Prop} {a : Act} {w : World} (hy : Y a)
  (h : wpOp P ops Q j K (a.put d v) w) : wpOp P ops Q j (fun a' w' => Y a' ∧ K (a'.put d v) w') a w := by
 have fwd : ∀ (b : Act) u, Y b → K ((b.put d v).put oj.dst u) = K ((b.put oj.dst u).put d v) := fun b u _ => by rw [Act.put_comm b v u h2]
 unfold wpOp at h ⊢
 simp only [hj] at h ⊢
 rw [wanted_put oj a d v h1] at h
 cases hw : Region.wanted oj (yielded ops a.tmps)
 ·rw [hw, if_neg (by decide)] at h
  rw [if_neg (by decide)]
  exact ⟨keep a hy _, by rw [← fwd a _ hy]; exact h⟩
 ·rw [hw, if_pos rfl] at h
  rw [if_pos rfl]
  rcases h with h | ⟨h, hl⟩
  ·left
   unfold Oper.wp at h ⊢
   rw [execOp_put oj hs a d v h1] at h
   generalize (execOp a.eval oj).run P w = r at h ⊢
   rcases r with ⟨n, w'⟩ | ⟨x, w'⟩
   ·cases n <;> simp only [Oper.upon] at h ⊢
    case value u => exact ⟨keep a hy u, by rw [← fwd a u hy]; exact h⟩
    case skip => exact ⟨keep a hy _, by rw [← fwd a _ hy]; exact h⟩
    case defer x =>
     refine ⟨keep _ (keepD a hy x) _, ?_⟩
     rw [← fwd _ _ (keepD a hy x), ← Act.put_defers]
     exact h
    case enter f args =>
     refine Calls.mono h fun e w'' he => ?_
     rcases e with u | c | _
     ·exact ⟨keep a hy u, by rw [← fwd a u hy]; exact he⟩
     ·exact hQ _ _ _ he
     ·exact he
    case row row args => exact Rows.mono h fun u w'' he => ⟨keep a hy u, by rw [← fwd a u hy]; exact he⟩
   ·cases x <;> simp only [Oper.upon] at h ⊢
    case panic u => exact hQ _ _ _ h
  ·right
   refine ⟨?_, hl⟩
   unfold Oper.asks at h ⊢
   rw [execOp_put oj hs a d v h1] at h
   exact h
def anyR (sx : Nat) (P : Program) (md : Region.Mode) (ops : Array Oper) (Q : Exit → Act → World → Prop) : Nat → Array Bool → Act → World → Prop
 | 0, listed, a, w => Region.ready md ops listed = [] ∧ Q .normal a w
 | n + 1, listed, a, w => (Region.ready md ops listed = [] → Q .normal a w) ∧
   ∀ i ∈ Region.ready md ops listed, wpOp P ops Q i (fun a' w' => Rb sx w w' ∧ anyR sx P md ops Q n (listed.setIfInBounds i true) a' w') a w
theorem any_of_anyR : ∀ (n : Nat) (listed : Array Bool) (a : Act) (w : World), anyR sx P md ops Q n listed a w → wpAny P md ops Q n listed a w
 | 0, _, _, _, h => h
 | n + 1, _, _, w, h => ⟨h.1, fun i hi => wpOp_mono (fun a' w' h' => any_of_anyR n _ a' w' h'.2) (h.2 i hi)⟩
theorem yields_on {w w' : World} {o : Oper} {v : Value} {a : Act} (h : YieldsIf P ops (Rb sx w) o v a) (k : Rb sx w w') : YieldsIf P ops (Rb sx w') o v a :=
 h.imp (fun ⟨h1, h2⟩ => ⟨h1, fun w1 k1 => h2 w1 (k.trans k1)⟩) id
theorem anyR_first {i : Nat} {oi : Oper} {v : Value} (hi : ops[i]? = some oi) (hsel : ∀ (j : Nat) (o : Oper) cs b, ops[j]? = some o → o.op ≠ .select cs b)
  (hQ : ∀ d v c a w, Q (.panic c) (a.put d v) w → Q (.panic c) a w) : ∀ (n : Nat) (listed : Array Bool) (a : Act) (w : World),
   (∀ j oj, ops[j]? = some oj → j ≠ i → listed.getD j true = false → (∀ e ∈ oj.after, Region.binds md e = true → e.on ≠ i) → oi.apart ops oj = true) →
   i ∈ Region.ready md ops listed → YieldsIf P ops (Rb sx w) oi v a →
   anyR sx P md ops Q n (listed.setIfInBounds i true) (a.put oi.dst v) w → anyR sx P md ops Q (n + 1) listed a w := by
 intro n
 induction n with
 | zero =>
  intro listed a w hfree hr hy H
  refine ⟨fun h => absurd hr (by rw [h]; exact List.not_mem_nil), fun j hj => ?_⟩
  by_cases e : j = i
  ·subst e
   exact hy.wpOp hi (Rb.refl w) ⟨Rb.refl w, H⟩
  ·have := ready_mono hj e
   rw [H.1] at this
   cases this
 | succ n ih =>
  intro listed a w hfree hr hy H
  refine ⟨fun h => absurd hr (by rw [h]; exact List.not_mem_nil), fun j hj => ?_⟩
  by_cases e : j = i
  ·subst e
   exact hy.wpOp hi (Rb.refl w) ⟨Rb.refl w, H⟩
  ·have h1 := H.2 j (ready_mono hj e)
   obtain ⟨hjun, oj, hoj, hall⟩ := mem_ready.1 hj
   have hiun := (mem_ready.1 hr).1
   have hnot : ∀ x ∈ oj.after, Region.binds md x = true → x.on ≠ i := fun x hx hb hxi => by
    have h2 := hall x hx hb
    rw [hxi] at h2
    by_cases hlt : i < listed.size
    ·simp [hlt] at hiun h2; rw [hiun] at h2; cases h2
    ·simp [Array.getElem?_eq_none (Nat.le_of_not_lt hlt)] at h2
   obtain ⟨g1, g2, g3⟩ := Oper.apart_spec (hfree j oj hoj e hjun hnot)
   have h2 := op_past (Y := YieldsIf P ops (Rb sx w) oi v) hoj (fun cs b => hsel j oj cs b hoj) g1 g2
    (fun b hb u => hb.of_same (execOp_put oi (fun cs b => hsel i oi cs b hi) b oj.dst u g3) (wanted_put oi b oj.dst u g3)) (fun b hb x => hb.of_same rfl rfl) (hQ oi.dst v) hy h1
   refine wpOp_mono (fun a' w' ⟨y, k, h3⟩ => ⟨k, ih (listed.setIfInBounds j true) a' w' (fun l ol hl hli hun hno => ?_) (ready_mono hr (Ne.symm e)) (yields_on y k) ?_⟩) h2
   ·refine hfree l ol hl hli ?_ hno
    by_cases hjl : j = l
    ·subst hjl; exact hjun
    ·rw [Go.getD_set_ne true hjl] at hun; exact hun
   ·rw [Array.setIfInBounds_comm _ _ e]
    exact h3
def plainOp (o : Oper) : Bool := match o.op with
 | .move _ | .assign _ | .pick .. | .build .. | .load .. | .binOp .. | .unOp .. | .convert .. | .fieldAddr .. | .field .. | .indexAddr .. | .index .. | .extract .. | .nilCheck .. => true
 | _ => false
theorem value_of_v {s : Sem Value} {w w' : World} {n : Next} (h : (do pure (Next.value (← s)) : Sem Next).run P w = .ok n w') : ∃ u, n = .value u := by
 rw [Sem.run_bind] at h
 generalize s.run P w = r at h
 rcases r with ⟨u, w2⟩ | ⟨x, w2⟩
 ·simp only [Result.andThen_ok, Sem.run_pure] at h
  cases h
  exact ⟨u, rfl⟩
 ·cases h
theorem plain_value {ρ : Operand → Value} {o : Oper} {w w' : World} {n : Next} (hp : plainOp o = true) (h : (execOp ρ o).run P w = .ok n w') : ∃ u, n = .value u := by
 unfold plainOp at hp
 unfold execOp at h
 split at hp
 all_goals first | cases hp | skip
 all_goals (rename_i e; rw [e] at h; first | exact value_of_v h | skip)
 ·simp only [Sem.run_pure] at h; cases h; exact ⟨_, rfl⟩
 ·simp only [Sem.run_pure] at h; cases h; exact ⟨_, rfl⟩
 ·rename_i c x y
  rw [Sem.run_bind] at h
  generalize (asBool (ρ c)).run P w = r at h
  rcases r with ⟨u, w2⟩ | ⟨x, w2⟩
  ·simp only [Result.andThen_ok, Sem.run_pure] at h; cases h; exact ⟨_, rfl⟩
  ·cases h
 ·dsimp only at h
  split at h
  ·cases h
  ·cases h
  ·cases h
  ·split at h
   ·cases h
   ·rw [Sem.run_bind] at h
    generalize Sem.run P _ w = r at h
    rcases r with ⟨u, w2⟩ | ⟨x, w2⟩
    ·simp only [Result.andThen_ok] at h
     rw [Sem.run_bind] at h
     generalize Sem.run P _ w2 = r at h
     rcases r with ⟨u, w3⟩ | ⟨x, w3⟩
     ·simp only [Result.andThen_ok] at h
      split at h
      ·cases h
      ·cases h; exact ⟨_, rfl⟩
     ·cases h
    ·cases h
   ·cases h; exact ⟨_, rfl⟩
  ·cases h; exact ⟨_, rfl⟩
def lst (n : Nat) (D : List Nat) : Array Bool := ((List.range n).map fun i => D.contains i).toArray
theorem lst_getD (n : Nat) (D : List Nat) (j : Nat) (d : Bool) : (lst n D).getD j d = if j < n then D.contains j else d := by
 unfold lst
 by_cases h : j < n
 ·rw [if_pos h]; simp [h]
 ·rw [if_neg h]; simp [Nat.le_of_not_lt h]
theorem lst_nil (n : Nat) : Array.replicate n false = lst n [] := by
 apply Array.ext
 ·simp [lst]
 ·intro i h1 h2
  simp [lst]
theorem lst_cons (n k : Nat) (D : List Nat) : (lst n D).setIfInBounds k true = lst n (k :: D) := by
 apply Array.ext
 ·simp [lst]
 ·intro i h1 h2
  have hs : i < (lst n D).size := by simpa using h1
  rw [Array.getElem_setIfInBounds hs]
  by_cases e : k = i
  ·subst e; simp [lst]
  ·rw [if_neg e]
   simp only [lst, List.getElem_toArray, List.getElem_map, List.getElem_range, List.contains_cons]
   rw [show (i == k) = false by simp; exact fun h => e h.symm, Bool.false_or]
def waitD (md : Region.Mode) (D : List Nat) (p : Oper) : Bool := p.after.any fun e => Region.binds md e && !D.contains e.on
def nth : List Oper → Nat → List Oper → List Oper
 | [], _, r => r
 | o :: _, 0, r => o :: r
 | _ :: l, n + 1, r => nth l n r
def pick (l : List Oper) : List Nat → List Oper
 | [] => []
 | i :: is => nth l i (pick l is)
def planCheck (md : Region.Mode) (ops : Array Oper) : List Nat → List Nat → List Oper → Bool
 | _, [], _ => true
 | _, _ :: _, [] => false
 | D, i :: is, o :: rest => !D.contains i && !waitD md D o && (bif plainOp o then rest.all (fun p => p.after.any (fun e => Region.binds md e && e.on == i) || o.apart ops p) else rest.all (waitD md D)) && planCheck md ops (i :: D) is rest
def planAll (n : Nat) (plan : List Nat) : Bool := (List.range n).all (fun i => plan.contains i) && plan.all (fun i => decide (i < n))
def wpLex (sx : Nat) (P : Program) (ops : Array Oper) (Q : Exit → Act → World → Prop) : List Oper → Act → World → Prop
 | [], a, w => Q .normal a w
 | o :: rest, a, w =>
  if plainOp o = true then
   (if Region.wanted o (yielded ops a.tmps) then o.quiet P a (Rb sx w) (fun a' => wpLex sx P ops Q rest a' w) else wpLex sx P ops Q rest (a.put o.dst undef) w)
  else (if Region.wanted o (yielded ops a.tmps) then o.wp P a w (fun a' w' => Rb sx w w' ∧ wpLex sx P ops Q rest a' w') Q else wpLex sx P ops Q rest (a.put o.dst undef) w)
theorem nth_eq : ∀ (l : List Oper) (i : Nat) (r : List Oper) {o : Oper}, l[i]? = some o → nth l i r = o :: r
 | [], i, r, o, h => by simp at h
 | p :: l, 0, r, o, h => by simp at h; subst h; rfl
 | p :: l, i + 1, r, o, h => by simp at h; exact nth_eq l i r h
theorem mem_pick {l : List Oper} {j : Nat} {o : Oper} (hj : l[j]? = some o) : ∀ {is : List Nat}, j ∈ is → (∀ i ∈ is, i < l.length) → o ∈ pick l is
 | [], h, _ => by cases h
 | i :: is, h, hb => by
  have hi : i < l.length := hb i (List.mem_cons_self ..)
  obtain ⟨p, hp⟩ : ∃ p, l[i]? = some p := ⟨l[i], by simp [hi]⟩
  unfold pick
  rw [nth_eq l i _ hp]
  rcases List.mem_cons.1 h with rfl | h
  ·rw [hj] at hp
   cases hp
   exact List.mem_cons_self ..
  ·exact List.mem_cons_of_mem _ (mem_pick hj h fun k hk => hb k (List.mem_cons_of_mem _ hk))
theorem ready_lst {D : List Nat} (hD : ∀ i ∈ D, i < ops.size) {j : Nat} : j ∈ Region.ready md ops (lst ops.size D) ↔ D.contains j = false ∧ ∃ o, ops[j]? = some o ∧ waitD md D o = false := by
 rw [mem_ready, lst_getD]
 constructor
 ·rintro ⟨h1, o, ho, h2⟩
  have hj := (Array.getElem?_eq_some_iff.1 ho).1
  rw [if_pos hj] at h1
  refine ⟨h1, o, ho, ?_⟩
  unfold waitD
  rw [Array.any_eq_false']
  intro e he hc
  rw [Bool.and_eq_true] at hc
  have h3 := h2 e he hc.1
  rw [lst_getD] at h3
  split at h3
  ·rw [h3] at hc; cases hc.2
  ·cases h3
 ·rintro ⟨h1, o, ho, h2⟩
  have hj := (Array.getElem?_eq_some_iff.1 ho).1
  rw [if_pos hj]
  refine ⟨h1, o, ho, fun e he hb => ?_⟩
  unfold waitD at h2
  rw [Array.any_eq_false'] at h2
  have h3 := h2 e he
  rw [hb, Bool.true_and, Bool.not_eq_true', Bool.not_eq_false] at h3
  rw [lst_getD, if_pos (hD _ (by simpa using h3))]
  exact h3
theorem anyR_plan (hsel : Region.noSelect ops = true) (hQ : ∀ d v c a w, Q (.panic c) (a.put d v) w → Q (.panic c) a w) : ∀ (plan D : List Nat) (a : Act) (w : World),
  (∀ i ∈ D, i < ops.size) → (∀ i ∈ plan, i < ops.size) → (∀ i, i < ops.size → i ∈ D ∨ i ∈ plan) → planCheck md ops D plan (pick ops.toList plan) = true → wpLex sx P ops Q (pick ops.toList plan) a w →
  anyR sx P md ops Q plan.length (lst ops.size D) a w
 | [], D, a, w, hD, _, hc, _, h => by
  refine ⟨List.eq_nil_iff_forall_not_mem.2 fun j hj => ?_, h⟩
  obtain ⟨h1, o, ho, _⟩ := (ready_lst hD).1 hj
  rcases hc j (Array.getElem?_eq_some_iff.1 ho).1 with h2 | h2
  ·rw [show D.contains j = true by simpa using h2] at h1; cases h1
  ·cases h2
 | k :: rest, D, a, w, hD, hp0, hc, hB, h => by
  have hlt : k < ops.size := hp0 k (List.mem_cons_self ..)
  obtain ⟨o, h0⟩ : ∃ o, ops[k]? = some o := ⟨ops[k], by simp [hlt]⟩
  have h0' : ops.toList[k]? = some o := by simpa using h0
  rw [show pick ops.toList (k :: rest) = o :: pick ops.toList rest from nth_eq _ _ _ h0'] at hB h
  simp only [planCheck, Bool.and_eq_true, Bool.not_eq_true'] at hB
  obtain ⟨⟨⟨hu, hw⟩, hf⟩, hB'⟩ := hB
  have hr : k ∈ Region.ready md ops (lst ops.size D) := (ready_lst hD).2 ⟨hu, o, h0, hw⟩
  have hp1 : ∀ i ∈ rest, i < ops.size := fun i hi => hp0 i (List.mem_cons_of_mem _ hi)
  have hD' : ∀ i ∈ k :: D, i < ops.size := fun i hi => by
   rcases List.mem_cons.1 hi with rfl | hi
   ·exact hlt
   ·exact hD i hi
  have hc' : ∀ i, i < ops.size → i ∈ k :: D ∨ i ∈ rest := fun i hi => by
   rcases hc i hi with h | h
   ·exact .inl (List.mem_cons_of_mem _ h)
   ·rcases List.mem_cons.1 h with rfl | h
    ·exact .inl (List.mem_cons_self ..)
    ·exact .inr h
  have behind : ∀ j oj, ops[j]? = some oj → j ≠ k → D.contains j = false → oj ∈ pick ops.toList rest := fun j oj hj hjk hjD => by
   rcases hc j (Array.getElem?_eq_some_iff.1 hj).1 with h | h
   ·rw [show D.contains j = true by simpa using h] at hjD; cases hjD
   ·rcases List.mem_cons.1 h with h | h
    ·exact absurd h hjk
    ·exact mem_pick (by simpa using hj) h (fun i hi => by simpa using hp1 i hi)
  unfold wpLex at h
  cases hp : plainOp o
  ·rw [hp, if_neg (by decide)] at h
   rw [hp, cond_false, List.all_eq_true] at hf
   refine ⟨fun h => absurd hr (by rw [h]; exact List.not_mem_nil), fun j hj => ?_⟩
   obtain ⟨g1, oj, g2, g3⟩ := (ready_lst hD).1 hj
   have e : j = k := by
    refine Classical.byContradiction fun hne => ?_
    have := hf oj (behind j oj g2 hne g1)
    rw [this] at g3
    cases g3
   subst e
   have h1 := h
   unfold wpOp
   simp only [h0]
   split
   ·rename_i hwa
    rw [if_pos hwa] at h1
    refine .inl (Oper.wp_mono (fun a' w' ⟨k1, k2⟩ => ⟨k1, ?_⟩) h1)
    rw [lst_cons]
    exact anyR_plan hsel hQ rest (j :: D) a' w' hD' hp1 hc' hB' k2
   ·rename_i hwa
    rw [if_neg hwa] at h1
    refine ⟨Rb.refl w, ?_⟩
    rw [lst_cons]
    exact anyR_plan hsel hQ rest (j :: D) _ w hD' hp1 hc' hB' h1
  ·rw [hp, if_pos rfl] at h
   rw [hp, cond_true, List.all_eq_true] at hf
   have key : ∃ v, YieldsIf P ops (Rb sx w) o v a ∧ wpLex sx P ops Q (pick ops.toList rest) (a.put o.dst v) w := by
    split at h
    ·rename_i hwa
     obtain ⟨v, h1, h2⟩ := h
     refine ⟨v, .inl ⟨hwa, fun w1 hw1 => ?_⟩, h2⟩
     have h3 := h1 w1 hw1
     unfold Oper.quietAt at h3
     generalize hr : (execOp a.eval o).run P w1 = r at h3
     rcases r with ⟨n, w2⟩ | ⟨x, w2⟩
     ·obtain ⟨u, rfl⟩ := plain_value hp hr
      obtain ⟨rfl, rfl⟩ := h3
      rfl
     ·exact h3.elim
    ·rename_i hwa
     exact ⟨undef, .inr ⟨by simpa using hwa, rfl⟩, h⟩
   obtain ⟨v, hy, hK⟩ := key
   refine anyR_first h0 (Region.noSelect_spec hsel) hQ rest.length _ a w (fun j oj hj hjk hun hno => ?_) hr hy ?_
   ·rw [lst_getD, if_pos (Array.getElem?_eq_some_iff.1 hj).1] at hun
    have h1 := hf oj (behind j oj hj hjk hun)
    rw [Bool.or_eq_true] at h1
    rcases h1 with h1 | h1
    ·obtain ⟨e, he, hb⟩ := Array.any_eq_true'.1 h1
     simp only [Bool.and_eq_true, beq_iff_eq] at hb
     exact absurd hb.2 (hno e he hb.1)
    ·exact h1
   ·rw [lst_cons]
    exact anyR_plan hsel hQ rest (k :: D) _ w hD' hp1 hc' hB' hK
theorem region_plan {id : Nat} {a : Act} {w : World} {l : List Oper} (plan : List Nat) (hm : P.follows .mixedOrders = true) (hsel : Region.noSelect l.toArray = true) (hn : l.length = plan.length) (hA : planAll l.length plan = true)
  (hB : planCheck .any l.toArray [] plan (pick l plan) = true)
  (h : wpLex sx P l.toArray (NoPanic Q) (pick l plan) a w.drew) : (Code.region id l.toArray true).wp P Q a w := by
 refine wp_region_noPanic (wp_region_any hm (any_of_anyR (sx := sx) _ _ _ _ ?_))
 rw [lst_nil]
 unfold planAll at hA
 rw [Bool.and_eq_true, List.all_eq_true, List.all_eq_true] at hA
 have := anyR_plan (sx := sx) (md := .any) (P := P) (ops := l.toArray) (Q := NoPanic Q) hsel (fun _ _ _ _ _ h => h) plan [] a w.drew (fun i hi => by cases hi) (fun i hi => by simpa using hA.2 i hi)
  (fun i hi => .inr (by simpa using hA.1 i (by simpa using hi))) hB h
 simpa [hn] using this
theorem lex_plain : ∀ (n : Nat) {l : List Oper} {a : Act} {w : World}, (l.take n).all plainOp = true → wpQuiet P ops (fun w1 => ∃ s : Wd sx w, w1 = s.w) (fun a' => wpLex sx P ops Q (l.drop n) a' w) (l.take n) a → wpLex sx P ops Q l a w
 | 0, _, _, _, _, h => by simpa [wpQuiet] using h
 | n + 1, [], _, _, _, h => by simpa [wpQuiet] using h
 | n + 1, o :: l, a, w, hp, h => by
  simp only [List.take_succ_cons, List.all_cons, Bool.and_eq_true] at hp
  simp only [List.take_succ_cons, List.drop_succ_cons, wpQuiet] at h
  unfold wpLex
  rw [if_pos hp.1]
  split
  ·rename_i hw
   rw [if_pos hw] at h
   exact Oper.quiet_mono (fun a' h' => lex_plain n hp.2 h') h
  ·rename_i hw
   rw [if_neg hw] at h
   exact lex_plain n hp.2 h
theorem lex_call {o : Oper} {l : List Oper} {a : Act} {w : World} (hp : plainOp o = false) (hw : Region.wanted o (yielded ops a.tmps) = true)
  (h : ∀ K : Act → World → Prop, (∀ a' w', w.grownBy w' (some sx) → wpLex sx P ops Q l a' w' → K a' w') → o.wp P a w K Q) : wpLex sx P ops Q (o :: l) a w := by
 unfold wpLex
 rw [hp, if_neg (by decide), if_pos hw]
 exact h _ fun a' w' k1 k2 => ⟨Rb.of k1, k2⟩
theorem lex_skip {o : Oper} {l : List Oper} {a : Act} {w : World} (hp : plainOp o = false) (hw : Region.wanted o (yielded ops a.tmps) = false) (h : wpLex sx P ops Q l (a.put o.dst undef) w) : wpLex sx P ops Q (o :: l) a w := by
 unfold wpLex
 rw [hp, if_neg (by decide), hw, if_neg (by decide)]
 exact h
theorem lex_nil {a : Act} {w : World} (h : Q .normal a w) : wpLex sx P ops Q [] a w := h
end
end Go.Proofs.Ytcehklnonhalhaa.LexS
namespace Go.Proofs.Ytcehklnonhalhaa
open Go.RowKit
set_option maxRecDepth 4000
section
variable {s : Nat} {w w' : World} {A : Option Addr} {n : Nat}
theorem cell_by (hk : ∀ b, s ≤ b → b < w.heap.size → w'.heap[b]? = w.heap[b]?) {b o : Nat} {v : Value} (h1 : s ≤ b) (h2 : b < w.heap.size) (h : w.cell? ⟨b, o, none⟩ = some v) : w'.cell? ⟨b, o, none⟩ = some v := (World.cell?_of_block (a := ⟨b, o, none⟩) (hk b h1 h2)).trans h
theorem Ns.by_ {L : List Nd} (h : Ns w A n L) (hA : AdOk (s ≤ ·) A) (hs : w.heap.size ≤ w'.heap.size) (hk : ∀ b, s ≤ b → b < w.heap.size → w'.heap[b]? = w.heap[b]?) : Ns w' A n L := ⟨h.1, fun k x hx => by
 obtain ⟨b, off, e, h1, h2, h3, h4, h5⟩ := h.2 k x hx
 have hb := hA b off e
 exact ⟨b, off, e, Nat.lt_of_lt_of_le h1 hs, cell_by hk hb h1 h2, cell_by hk hb h1 h3, cell_by hk hb h1 h4, cell_by hk hb h1 h5⟩⟩
theorem PsH.by_ {L : List Pt} (h : PsH s w A n L) (hs : w.heap.size ≤ w'.heap.size) (hk : ∀ b, s ≤ b → b < w.heap.size → w'.heap[b]? = w.heap[b]?) : PsH s w' A n L := ⟨h.1, fun k p hp => by
 obtain ⟨b, off, A', m, c, h1, h0, h2, h3, h4, h5, h6, h7⟩ := h.2 k p hp
 exact ⟨b, off, A', m, c, h1, h0, Nat.lt_of_lt_of_le h2 hs, cell_by hk h0 h2 h3, cell_by hk h0 h2 h4, h5, h6, h7.1, fun k x hx => by
  obtain ⟨b, off, g1, g2, g3, g4⟩ := h7.2 k x hx
  exact ⟨b, off, g1, g2, Nat.lt_of_lt_of_le g3 hs, cell_by hk g2 g3 g4⟩⟩⟩
end
end Go.Proofs.Ytcehklnonhalhaa
namespace Go.Proofs.Ytcehklnonhalhaa
open Go.RowKit
set_option maxRecDepth 4000
end Go.Proofs.Ytcehklnonhalhaa
