/-
  What the proofs of OptSame need: Ha Hb Hc Hd Hm He Hg Hh Hi Hj HL.
-/
import Derived.Test.YtcehklnonhalhaaSPNC
import Derived.Test.YtcehklnonhalhaaSPGC
import Derived.Deep.QuietTactic
import Derived.BigQuiet
import Derived.Test.YtcehklnonhalhaaSPGbf
import Derived.Test.YtcehklnonhalhaaSPGn
import Derived.Laws.CopyOwn
import Derived.Test.YtcehklnonhalhaaSPGt
import Derived.Test.YtcehklnonhalhaaSPLex
import Derived.OpenShut
import Derived.ShutString
import Derived.ChangeOld
set_option linter.unusedVariables false
namespace Go.Proofs.Ytcehklnonhalhaa
open Go.RowKit
set_option maxRecDepth 4000
/-! values, by lists -/
def nd0 : Nd := ⟨0, 0, 0, 0⟩
def pt0 : Pt := ⟨⟨#[]⟩, []⟩
def atI (v : List Int) (q : Int) : Int := v.getD q.toNat 0
def bitI (x k : Nat) : Int := ((x / 2 ^ k % 2 : Nat) : Int)
def gvS (k a b c : Int) : Int := if k = 2 then 1 - a else if k = 3 then min a b else if k = 4 then max a b else if k = 5 then (a + b) % 2 else if c = 1 then b else a
def gateS (x : Nd) (v : List Int) : Int := gvS x.k (atI v x.a) (atI v x.b) (atI v x.c)
def setS (bs : List Int) (x : Nat) (v : List Int) : Nat → List Int
 | 0 => v
 | j + 1 => (setS bs x v j).set (bs.getD j 0).toNat (bitI x j)
def numS (bs : List Int) (v : List Int) : Nat → Nat
 | 0 => 0
 | k + 1 => numS bs v k + if atI v (bs.getD k 0) = 0 then 0 else 2 ^ k
def outS (O : List Pt) (u : List Int) : List Nat := O.map fun p => numS p.bits u p.bits.length
def fitAt (I : List Pt) (xs : List Nat) (i : Nat) : Bool := decide (blen (xs.getD i 0) ≤ (I.getD i pt0).bits.length)
def fitsS (I : List Pt) (xs : List Nat) : Bool := decide (xs.length = I.length) && (List.range I.length).all (fitAt I xs)
def v01 (v : List Int) : Prop := ∀ x ∈ v, x = 0 ∨ x = 1
theorem v01.set {v : List Int} (h : v01 v) (k : Nat) {x : Int} (hx : x = 0 ∨ x = 1) : v01 (v.set k x) := fun y hy => by
 rcases List.mem_or_eq_of_mem_set hy with hy | rfl
 ·exact h y hy
 ·exact hx
theorem v01.at {v : List Int} (h : v01 v) (q : Int) : atI v q = 0 ∨ atI v q = 1 := by
 unfold atI
 rw [List.getD_eq_getElem?_getD]
 cases e : v[q.toNat]? with
 | none => exact .inl rfl
 | some x => exact h x (List.mem_of_getElem? e)
theorem gvS_01 (k : Int) {a b c : Int} (ha : a = 0 ∨ a = 1) (hb : b = 0 ∨ b = 1) : gvS k a b c = 0 ∨ gvS k a b c = 1 := by
 unfold gvS
 repeat' split
 all_goals omega
theorem numS_lt (bs v : List Int) : ∀ k, numS bs v k < 2 ^ k
 | 0 => by unfold numS; omega
 | k + 1 => by
  have := numS_lt bs v k
  unfold numS
  rw [Nat.pow_succ]
  split <;> omega
theorem getD_of {α : Type} {L : List α} {k : Nat} {x d : α} (h : L[k]? = some x) : L.getD k d = x := by rw [List.getD_eq_getElem?_getD, h]; rfl
/-! memory -/
def Rw (w : World) (A : Option Addr) (n : Nat) (vs : List Value) : Prop := vs.length = n ∧ ∀ k u, vs[k]? = some u → ∃ b off, A = some ⟨b, off, none⟩ ∧ b < w.heap.size ∧ w.cell? ⟨b, off + k, none⟩ = some u
def AdOk (ok : Nat → Prop) (A : Option Addr) : Prop := ∀ b off, A = some ⟨b, off, none⟩ → ok b
def Kp (ok : Nat → Prop) (w w' : World) : Prop := w.heap.size ≤ w'.heap.size ∧ ∀ b, b < w.heap.size → ok b → w'.heap[b]? = w.heap[b]?
section
variable {ok ok' : Nat → Prop} {w w' : World} {A : Option Addr} {n : Nat}
theorem Rw.on {vs : List Value} (h : Rw w A n vs) (hb : Below w.heap.size w w') : Rw w' A n vs := ⟨h.1, fun k u hu => by
 obtain ⟨b, off, h1, h2, h3⟩ := h.2 k u hu
 exact ⟨b, off, h1, Nat.lt_of_lt_of_le h2 hb.size, (hb.cell (p := ⟨b, off + k, none⟩) h2).trans h3⟩⟩
theorem Kp.cell (h : Kp ok w w') {b o : Nat} (hb : b < w.heap.size) (hk : ok b) : w'.cell? ⟨b, o, none⟩ = w.cell? ⟨b, o, none⟩ := World.cell?_of_block (w := w) (h.2 b hb hk)
theorem Kp.below {B : Nat} (h : Below B w w') (hk : ∀ b, b < w.heap.size → ok b → b < B) : Kp ok w w' := ⟨h.size, fun b hb ho => h.block b (hk b hb ho)⟩
def PsA (ok : Nat → Prop) (w : World) (A : Option Addr) (n : Nat) (L : List Pt) : Prop := L.length = n ∧ ∀ k p, L[k]? = some p → ∃ b off A' m c, A = some ⟨b, off, none⟩ ∧ ok b ∧ b < w.heap.size ∧ w.cell? ⟨b, off + k * 2, none⟩ = some (.string p.name) ∧ w.cell? ⟨b, off + k * 2 + 1, none⟩ = some (.slice A' m c) ∧ (m ≤ c ∧ (A' = none → c = 0)) ∧ c ≤ maxLen ∧ IsB ok w A' m p.bits
theorem PsA.ps {L : List Pt} (h : PsA ok w A n L) : Ps w A n L := ⟨h.1, fun k p hp => by
 obtain ⟨b, off, A', m, c, h1, h2, h3, h4, h5, h6, h7, h8⟩ := h.2 k p hp
 exact ⟨b, off, A', m, c, h1, h3, h4, h5, h6, h7, h8.is⟩⟩
theorem IsB.keep {L : List Int} (h : IsB ok w A n L) (hk : Kp ok w w') : IsB ok w' A n L := ⟨h.1, fun k x hx => by
 obtain ⟨b, off, h1, h2, h3, h4⟩ := h.2 k x hx
 exact ⟨b, off, h1, h2, Nat.lt_of_lt_of_le h3 hk.1, (hk.cell h3 h2).trans h4⟩⟩
theorem PsA.keep {L : List Pt} (h : PsA ok w A n L) (hk : Kp ok w w') : PsA ok w' A n L := ⟨h.1, fun k p hp => by
 obtain ⟨b, off, A', m, c, h1, h2, h3, h4, h5, h6, h7, h8⟩ := h.2 k p hp
 exact ⟨b, off, A', m, c, h1, h2, Nat.lt_of_lt_of_le h3 hk.1, (hk.cell h3 h2).trans h4, (hk.cell h3 h2).trans h5, h6, h7, h8.keep hk⟩⟩
end
theorem Rw.nil_ {w : World} {A : Option Addr} : Rw w A 0 [] := ⟨rfl, fun k u h => by simp at h⟩
theorem row_rw {w : World} {base : Nat} {e : TypeId} {v : Value} {n : Nat} {xs : List Value} (h : w.ownsRow base e 1 v n xs) : ∃ A c, v = .slice A n c ∧ Sw A n c ∧ (∀ b off, A = some ⟨b, off, none⟩ → base ≤ b ∧ off = 0) ∧ Rw w A n xs := by
 obtain ⟨A, c, h1, h2, h3, h4⟩ := row_at h
 have hl : xs.length = n := by rw [h.1, Nat.mul_one]
 exact ⟨A, c, h1, h2, h3, hl, fun k u hu => by
  obtain ⟨b, e, hb, hc⟩ := h4 k u hu
  exact ⟨b, 0, e, hb, by rw [Nat.zero_add]; exact hc⟩⟩
structure Si where
  wb : World
  p : Nat
  An : Option Addr
  nn : Nat
  cn : Nat
  Ai : Option Addr
  ni : Nat
  ci : Nat
  Ao : Option Addr
  no : Nat
  co : Nat
  Ag : Option Addr
  ng : Nat
  cg : Nat
  Ar : Option Addr
  nr : Nat
  cr : Nat
  N : List Nd
  I : List Pt
  O : List Pt
  G : List Int
  R : List Int
section
variable {B : Nat} {s : Si} {w w' : World} {g : Nat} {v : List Int}
end
structure Sn where
  A : Option Addr
  m : Nat
  c : Nat
  x : Nat
def snC (r : Sn) : Value := .slice r.A r.m r.c
end Go.Proofs.Ytcehklnonhalhaa
namespace Go.Proofs.Ytcehklnonhalhaa
open Go.RowKit
set_option maxRecDepth 4000
theorem Grow.at {w : World} {base : Nat} {t : TypeId} {v : Value} {vs : List Value} {n : Nat} (h : Grow w base t v vs) (hn : vs.length = n) : ∃ A c, v = .slice A n c ∧ Sw A n c ∧ (∀ b off, A = some ⟨b, off, none⟩ → base ≤ b ∧ off = 0) ∧ Rw w A n vs := by
 subst hn
 exact row_rw h
set_option maxRecDepth 4000
theorem fit_no {I : List Pt} {xs : List Nat} {i : Nat} (hi : i < I.length) (h : fitAt I xs i = false) : fitsS I xs = false := by
 unfold fitsS
 rw [Bool.and_eq_false_iff]
 right
 rw [List.all_eq_false]
 exact ⟨i, List.mem_range.2 hi, by rw [h]; decide⟩
theorem fit_succ {I : List Pt} {xs : List Nat} {i : Nat} (h : (List.range i).all (fitAt I xs) = true) (hf : fitAt I xs i = true) : (List.range (i + 1)).all (fitAt I xs) = true := by
 rw [List.range_succ, List.all_append, h]
 simp [hf]
set_option maxRecDepth 4000
theorem Gb.trans {w w1 w2 : World} {r : Option Nat} (h : w.grownBy w1 r) (k : w1.grownBy w2 r) : w.grownBy w2 r :=
 ⟨k.os.trans h.os, k.tape.trans h.tape, k.output.trans h.output, Nat.le_trans h.size k.size, fun b hb hr => (k.block b (Nat.lt_of_lt_of_le hb h.size) hr).trans (h.block b hb hr)⟩
theorem Gb.below {w w1 w2 : World} {r : Option Nat} {B : Nat} (h : w.grownBy w1 r) (k : Below B w1 w2) (hB : w.heap.size ≤ B) : w.grownBy w2 r :=
 ⟨k.os.trans h.os, k.tape.trans h.tape, k.output.trans h.output, Nat.le_trans h.size k.size, fun b hb hr => (k.block b (Nat.lt_of_lt_of_le hb hB)).trans (h.block b hb hr)⟩
theorem Gb.refl (w : World) (r : Option Nat) : w.grownBy w r := ⟨rfl, rfl, rfl, Nat.le_refl _, fun _ _ _ => rfl⟩
theorem Gb.of {w w1 : World} (r : Option Nat) (b : Below w.heap.size w w1) : w.grownBy w1 r := Gb.below (Gb.refl w r) b (Nat.le_refl _)
set_option maxRecDepth 4000
/-! lists, set place by place -/
theorem getD_set (v : List Int) (q : Nat) (x : Int) (j : Nat) : (v.set q x).getD j 0 = if j = q ∧ q < v.length then x else v.getD j 0 := by
 rw [List.getD_eq_getElem?_getD, List.getD_eq_getElem?_getD, List.getElem?_set]
 by_cases h : q = j
 ·subst h
  by_cases hl : q < v.length
  ·simp [hl]
  ·simp [hl]
 ·rw [if_neg h, if_neg (fun e => h e.1.symm)]
theorem ext_getD {u v : List Int} {n : Nat} (hu : u.length = n) (hv : v.length = n) (h : ∀ i < n, u.getD i 0 = v.getD i 0) : u = v := by
 apply List.ext_getElem (by omega)
 intro i h1 h2
 have := h i (by omega)
 rw [List.getD_eq_getElem?_getD, List.getD_eq_getElem?_getD, List.getElem?_eq_getElem h1, List.getElem?_eq_getElem h2] at this
 exact this
theorem range_map {α β : Type} (L : List α) (d : α) (g : α → β) : (List.range L.length).map (fun i => g (L.getD i d)) = L.map g := by
 apply List.ext_getElem (by simp)
 intro i h1 h2
 simp at h1 h2
 simp [h2]
def runL (h : Nat → List Int → Int) (L : List Nat) (v : List Int) : List Int := L.foldl (fun v q => v.set q (h q v)) v
def Ord (dep : Nat → List Nat) : List Nat → Prop
 | [] => True
 | q :: L => q ∉ L ∧ (∀ j ∈ dep q, j ≠ q ∧ j ∉ L) ∧ Ord dep L
theorem runL_len (h : Nat → List Int → Int) : ∀ (L : List Nat) (v : List Int), (runL h L v).length = v.length
 | [], v => rfl
 | q :: L, v => by
  show (runL h L (v.set q (h q v))).length = _
  rw [runL_len h L, List.length_set]
theorem runL_at {h : Nat → List Int → Int} {dep : Nat → List Nat} : ∀ (L : List Nat) (v : List Int), (∀ q ∈ L, ∀ u v : List Int, (∀ j ∈ dep q, u.getD j 0 = v.getD j 0) → h q u = h q v) → Ord dep L → (∀ q ∈ L, q < v.length) → (∀ q ∈ L, (runL h L v).getD q 0 = h q (runL h L v)) ∧ (∀ q, q ∉ L → (runL h L v).getD q 0 = v.getD q 0)
 | [], v, _, _, _ => ⟨fun q hq => (by cases hq), fun q _ => rfl⟩
 | q :: L, v, hd, ho, hl => by
  obtain ⟨h1, h2, h3⟩ := ho
  have hq := hl q (List.mem_cons_self ..)
  obtain ⟨i1, i2⟩ := runL_at (h := h) (dep := dep) L (v.set q (h q v)) (fun p hp => hd p (List.mem_cons_of_mem _ hp)) h3 (fun p hp => by rw [List.length_set]; exact hl p (List.mem_cons_of_mem _ hp))
  have e : runL h (q :: L) v = runL h L (v.set q (h q v)) := rfl
  rw [e]
  have hqq : (runL h L (v.set q (h q v))).getD q 0 = h q (runL h L (v.set q (h q v))) := by
   rw [i2 q h1, getD_set, if_pos ⟨rfl, hq⟩]
   apply hd q (List.mem_cons_self ..)
   intro j hj
   obtain ⟨g1, g2⟩ := h2 j hj
   rw [i2 j g2, getD_set, if_neg (fun e => g1 e.1)]
  refine ⟨fun p hp => ?_, fun p hp => ?_⟩
  ·rcases List.mem_cons.1 hp with rfl | hp
   ·exact hqq
   ·exact i1 p hp
  ·rw [List.mem_cons, not_or] at hp
   rw [i2 p hp.2, getD_set, if_neg (fun e => hp.1 e.1)]
theorem ord_of {dep : Nat → List Nat} {f : Nat → Nat} : ∀ {L : List Nat}, L.Nodup → L.Pairwise (fun i j => f i ≤ f j) → (∀ q ∈ L, ∀ j ∈ dep q, f j < f q) → Ord dep L
 | [], _, _, _ => trivial
 | q :: L, h1, h2, h3 => by
  rw [List.nodup_cons] at h1
  rw [List.pairwise_cons] at h2
  refine ⟨h1.1, fun j hj => ?_, ord_of h1.2 h2.2 fun p hp => h3 p (List.mem_cons_of_mem _ hp)⟩
  have h4 := h3 q (List.mem_cons_self ..) j hj
  refine ⟨fun e => ?_, fun hm => ?_⟩
  ·subst e; omega
  ·have := h2.1 j hm; omega
def csetL (W : List (Nat × Int)) (v : List Int) : List Int := W.foldl (fun v p => if p.2 = 1 then v.set p.1 1 else v) v
/-! nodes' values -/
def isGs (k : Int) : Bool := decide (k ≠ 0) && (decide (k ≠ 1) && decide (k ≠ 7))
def nodeS (x : Nd) (st inn : List Int) (i : Nat) (u : List Int) : Int := if x.k = 0 then x.a else if x.k = 1 then inn.getD i 0 else if x.k = 7 then st.getD i 0 else gateS x u
def Sol (N : List Nd) (st inn u : List Int) : Prop := u.length = N.length ∧ ∀ i < N.length, u.getD i 0 = nodeS (N.getD i nd0) st inn i u
theorem gate_dep {x : Nd} {n : Int} (hf : formedS n x = true) (h7 : x.k ≠ 7) {u v : List Int} (h : ∀ j ∈ needS x, u.getD j 0 = v.getD j 0) : gvS x.k (atI u x.a) (atI u x.b) (atI u x.c) = gvS x.k (atI v x.a) (atI v x.b) (atI v x.c) ∨ ¬ isGs x.k = true := by
 by_cases hg : isGs x.k = true
 ·left
  unfold formedS kindS at hf
  unfold isGs at hg
  simp only [Bool.and_eq_true, decide_eq_true_eq] at hf hg
  unfold needS at h
  rw [if_neg h7] at h
  unfold usesS manyS at h
  unfold gvS atI
  rcases (show x.k = 2 ∨ x.k = 3 ∨ x.k = 4 ∨ x.k = 5 ∨ x.k = 6 by omega) with e | e | e | e | e
  all_goals rw [e] at h ⊢
  all_goals simp at h ⊢
  ·rw [h]
  ·rw [h.1, h.2]
  ·rw [h.1, h.2]
  ·rw [h.1, h.2]
  ·rw [h.1, h.2.1, h.2.2]
 ·exact .inr hg
theorem isGs_of {k : Int} (h0 : k ≠ 0) (h1 : k ≠ 1) (h7 : k ≠ 7) : isGs k = true := by unfold isGs; simp [h0, h1, h7]
theorem node_dep {x : Nd} {n : Int} (hf : formedS n x = true) (st inn : List Int) (i : Nat) {u v : List Int} (h : ∀ j ∈ needS x, u.getD j 0 = v.getD j 0) : nodeS x st inn i u = nodeS x st inn i v := by
 unfold nodeS
 by_cases h0 : x.k = 0
 ·rw [if_pos h0, if_pos h0]
 by_cases h1 : x.k = 1
 ·rw [if_neg h0, if_neg h0, if_pos h1, if_pos h1]
 by_cases h7 : x.k = 7
 ·rw [if_neg h0, if_neg h0, if_neg h1, if_neg h1, if_pos h7, if_pos h7]
 rw [if_neg h0, if_neg h0, if_neg h1, if_neg h1, if_neg h7, if_neg h7]
 unfold gateS
 rcases gate_dep hf h7 h with e | e
 ·exact e
 ·exact absurd (isGs_of h0 h1 h7) e
theorem formed_at {N : List Nd} {n : Int} (hf : N.all (formedS n) = true) {i : Nat} (hi : i < N.length) : formedS n (N.getD i nd0) = true := by
 rw [List.getD_eq_getElem?_getD, List.getElem?_eq_getElem hi]
 exact List.all_eq_true.1 hf _ (List.getElem_mem hi)
theorem hneed_lt {N : List Nd} {f : Nat → Nat} (hf : All N f) {i : Nat} (hi : i < N.length) {j : Nat} (hj : j ∈ needS (N.getD i nd0)) : f j < f i ∧ j < N.length := by
 obtain ⟨x, hx, h1, h2⟩ := hf i hi
 rw [getD_of hx] at hj
 exact ⟨lead_lt hf ⟨x, hx, hj⟩, h1 j hj⟩
theorem sol_unique {N : List Nd} {f : Nat → Nat} (ha : All N f) {n : Int} (hf : N.all (formedS n) = true) {st inn u v : List Int} (hu : Sol N st inn u) (hv : Sol N st inn v) : u = v := by
 refine ext_getD hu.1 hv.1 ?_
 suffices h : ∀ d i, f i < d → i < N.length → u.getD i 0 = v.getD i 0 from fun i hi => h (f i + 1) i (by omega) hi
 intro d
 induction d with
 | zero => intro i h; omega
 | succ d ih =>
  intro i hfi hi
  rw [hu.2 i hi, hv.2 i hi]
  refine node_dep (formed_at hf hi) st inn i fun j hj => ?_
  obtain ⟨h1, h2⟩ := hneed_lt ha hi hj
  exact ih j (by omega) h2
/-! orders -/
structure Od (N : List Nd) (f : Nat → Nat) (L : List Nat) : Prop where
  nd : L.Nodup
  mem : ∀ i, i ∈ L ↔ i < N.length
  all : All N f
  up : L.Pairwise (fun i j => f i ≤ f j)
theorem ordU_up (f : Nat → Nat) (n v : Nat) : (ordU f n v).Pairwise (fun i j => f i ≤ f j) := by
 induction v with
 | zero => exact List.Pairwise.nil
 | succ v ih =>
  rw [ordU_succ, List.pairwise_append]
  have key : ∀ i ∈ (List.range n).filter (fun i => decide (f i = v)), f i = v := fun i hi => by simpa using (List.mem_filter.1 hi).2
  refine ⟨ih, ?_, fun a ha b hb => ?_⟩
  ·exact List.pairwise_iff_getElem.2 fun i j hi hj _ => by rw [key _ (List.getElem_mem hi), key _ (List.getElem_mem hj)]; exact Nat.le_refl _
  ·have h1 := ((ordU_mem f n).1 ha).2
   rw [key b hb]
   omega
theorem od_of {N : List Nd} {I O : List Pt} {dd : List Nat} {e : Int} (hl : levelS N I O = (some dd, e)) : e = 0 ∧ dd.length = N.length ∧ N.all (formedS N.length) = true ∧ (∀ p ∈ I ++ O, bitsS N.length p = true) ∧ fedS N I = true ∧ Od N (fun i => dd.getD i 0) (ordU (fun i => dd.getD i 0) dd.length dd.length) ∧ ordO (some dd) = nI (ordU (fun i => dd.getD i 0) dd.length dd.length) := by
 unfold levelS at hl
 split at hl
 ·injection hl with h1 h2
  cases h1
 ·rename_i h0
  have h0 : wrongS N I O = 0 := by simpa using h0
  obtain ⟨_, w2, w3, _, _, w6⟩ := wrongS_ok.1 h0
  split at hl
  ·rename_i d hd
   injection hl with h1 h2
   injection h1 with h1
   subst h1
   obtain ⟨a, b⟩ := levS_some hd
   refine ⟨h2.symm, a, w2, fun p hp => List.all_eq_true.1 w3 p hp, w6, ⟨ordU_nodup _ _ _, fun i => ?_, b, ordU_up _ _ _⟩, ordO_is _⟩
   rw [ordU_mem, a]
   exact ⟨fun h => h.1, fun h => ⟨h, all_lt b h⟩⟩
  ·injection hl with h1 h2
   cases h1
theorem Od.ord {N : List Nd} {f : Nat → Nat} {L : List Nat} (h : Od N f L) (p : Nat → Bool) : Ord (fun q => needS (N.getD q nd0)) (L.filter p) :=
 ord_of (f := f) (h.nd.filter _) (h.up.sublist List.filter_sublist) fun q hq j hj => (hneed_lt h.all ((h.mem q).1 (List.mem_filter.1 hq).1) hj).1
/-! what comes in -/
def prP (p : Pt) (x : Nat) : List (Nat × Int) := (List.range p.bits.length).map fun k => ((p.bits.getD k 0).toNat, bitI x k)
def prI (I : List Pt) (xs : List Nat) : List (Nat × Int) := (List.range I.length).flatMap fun i => prP (I.getD i pt0) (xs.getD i 0)
def setR (bs : List Int) (x : Nat) (v : List Int) : Nat → List Int
 | 0 => v
 | j + 1 => if bitI x j = 1 then (setR bs x v j).set (bs.getD j 0).toNat 1 else setR bs x v j
def insR (I : List Pt) (xs : List Nat) (v : List Int) : Nat → List Int
 | 0 => v
 | i + 1 => setR (I.getD i pt0).bits (xs.getD i 0) (insR I xs v i) (blen (xs.getD i 0))
theorem setR_len (bs : List Int) (x : Nat) (v : List Int) : ∀ j, (setR bs x v j).length = v.length
 | 0 => rfl
 | j + 1 => by
  unfold setR
  split
  ·rw [List.length_set, setR_len bs x v j]
  ·exact setR_len bs x v j
theorem insR_len (I : List Pt) (xs : List Nat) (v : List Int) : ∀ j, (insR I xs v j).length = v.length
 | 0 => rfl
 | j + 1 => by unfold insR; rw [setR_len, insR_len I xs v j]
theorem setR_is (bs : List Int) (x : Nat) (v : List Int) : ∀ j, setR bs x v j = csetL ((List.range j).map fun k => ((bs.getD k 0).toNat, bitI x k)) v
 | 0 => rfl
 | j + 1 => by
  unfold setR
  rw [List.range_succ, List.map_append, setR_is bs x v j]
  unfold csetL
  rw [List.foldl_append]
  rfl
theorem setR_more (bs : List Int) (x : Nat) (v : List Int) {j : Nat} (hj : blen x ≤ j) : setR bs x v j = setR bs x v (blen x) := by
 obtain ⟨d, rfl⟩ : ∃ d, j = blen x + d := ⟨j - blen x, by omega⟩
 induction d with
 | zero => rfl
 | succ d ih =>
  rw [← Nat.add_assoc, setR, if_neg, ih (by omega)]
  have h1 : x < 2 ^ (blen x + d) := Nat.lt_of_lt_of_le ((blen_le x (blen x)).1 (Nat.le_refl _)) (Nat.pow_le_pow_right (by decide) (by omega))
  unfold bitI
  rw [Nat.div_eq_of_lt h1]
  decide
theorem insR_is (I : List Pt) (xs : List Nat) (v : List Int) : ∀ j, (∀ i < j, blen (xs.getD i 0) ≤ (I.getD i pt0).bits.length) → insR I xs v j = csetL ((List.range j).flatMap fun i => prP (I.getD i pt0) (xs.getD i 0)) v
 | 0, _ => rfl
 | j + 1, h => by
  unfold insR
  rw [List.range_succ, List.flatMap_append, ← setR_more _ _ _ (h j (by omega)), insR_is I xs v j fun i hi => h i (by omega), setR_is]
  unfold csetL
  rw [List.foldl_append]
  simp [prP]
open Go.RowKit
set_option maxRecDepth 4000
theorem add_plain (b off j : Nat) : (⟨b, off, none⟩ : Addr).add j = ⟨b, off + j, none⟩ := by
 unfold Addr.add
 by_cases h : j = 0
 ·simp [h]
 ·simp [h]
set_option maxRecDepth 4000
theorem i64_info7 : (Try.prog.info? 3).map (fun i => (i.zero, i.size, i.bytes)) = some (some (.int .i64 0), 1, 8) := by kernel_rfl
theorem ivs_len7 (L : List Int) : (ivs L).length = L.length := by simp [ivs]
theorem Rw.is {w : World} {A : Option Addr} {n : Nat} {L : List Int} (h : Rw w A n (ivs L)) : Is w A n L := ⟨by rw [← ivs_len7]; exact h.1, fun k x hx => h.2 k _ (by unfold ivs; rw [List.getElem?_map, hx]; rfl)⟩
/-! what is told lies in blocks of its types, and so stays -/
def TK (t : TypeId) (w w' : World) : Prop := ∀ (b : Nat) cs f, w.heap[b]? = some (.cells cs t f) → w'.heap[b]? = w.heap[b]?
theorem TK.below {t : TypeId} {w w' : World} (hb : Below w.heap.size w w') : TK t w w' := fun b cs f h => hb.block b (Array.getElem?_eq_some_iff.1 h).1
theorem TK.trans {t : TypeId} {w w' w'' : World} (h : TK t w w') (k : TK t w' w'') : TK t w w'' := fun b cs f e => (k b cs f ((h b cs f e).trans e)).trans (h b cs f e)
theorem TK.grown {t t' : TypeId} {w w' : World} {g : Nat} {cs : List Value} (hg : w.grownBy w' (some g)) (ho : Own w g t' cs) (ht : t ≠ t') : TK t w w' := fun b cs f e => hg.block b (Array.getElem?_eq_some_iff.1 e).1 (fun eq => by
 injection eq with eq
 subst eq
 unfold Own at ho
 rw [ho] at e
 injection e with e
 injection e with _ e _
 exact ht e.symm)
theorem TK.row {t t' : TypeId} {w w' : World} {base size n : Nat} {v : Value} {xs : List Value} (hr : w.ownsRow base t' size v n xs) (hg : w.grownBy w' v.ownBlock) (ht : t ≠ t') : TK t w w' := fun b cs f e => hg.block b (Array.getElem?_eq_some_iff.1 e).1 (fun eq => by
 rcases hr.2 with ⟨rfl, _⟩ | ⟨g, cap, cur, rfl, _, h2, _⟩
 ·cases eq
 ·injection eq with eq
  subst eq
  rw [h2] at e
  injection e with e
  injection e with _ e _
  exact ht e.symm)
def RwT (t : TypeId) (w : World) (A : Option Addr) (n : Nat) (vs : List Value) : Prop := Rw w A n vs ∧ Tg w A n t
def ResT (w : World) (A : Option Addr) (m x : Nat) : Prop := ∃ ds, RwT 136 w A m (U ds) ∧ Canon ds ∧ val ds = x
def NuT (t : TypeId) (w : World) (A : Option Addr) (n : Nat) (xs : List Nat) : Prop := ∃ rs : List Sn, RwT t w A n (rs.map snC) ∧ rs.map Sn.x = xs ∧ ∀ r ∈ rs, ResT w r.A r.m r.x ∧ r.m ≤ 3200 ∧ Sw r.A r.m r.c
section
variable {t : TypeId} {w w' : World} {A : Option Addr} {n x : Nat} {vs : List Value} {xs : List Nat}
theorem RwT.tk (h : RwT t w A n vs) (hk : TK t w w') : RwT t w' A n vs := by
 refine ⟨⟨h.1.1, fun k u hu => ?_⟩, fun h0 => ?_⟩
 ·obtain ⟨b, off, h1, h2, h3⟩ := h.1.2 k u hu
  have hkn : k < n := by have := (List.getElem?_eq_some_iff.1 hu).1; rwa [h.1.1] at this
  obtain ⟨b', off', cs, f, e, hc⟩ := h.2 (by omega)
  have e2 := h1.symm.trans e
  cases e2
  have hb := hk b cs f hc
  refine ⟨b, off, h1, ?_, (World.cell?_of_block hb).trans h3⟩
  exact (Array.getElem?_eq_some_iff.1 (hb.trans hc)).1
 ·obtain ⟨b, off, cs, f, e, hc⟩ := h.2 h0
  exact ⟨b, off, cs, f, e, (hk b cs f hc).trans hc⟩
theorem ResT.tk (h : ResT w A n x) (hk : TK 136 w w') : ResT w' A n x := by
 obtain ⟨ds, h1, h2⟩ := h
 exact ⟨ds, h1.tk hk, h2⟩
theorem ResT.res (h : ResT w A n x) : Res w A n x := by
 obtain ⟨ds, h1, h2, h3⟩ := h
 exact ⟨ds, ⟨h1.1, h2.1⟩, h2, h3⟩
theorem Res.tg (h : Res w A n x) (ht : Tg w A n 136) : ResT w A n x := by
 obtain ⟨ds, h1, h2, h3⟩ := h
 exact ⟨ds, ⟨h1.1, ht⟩, h2, h3⟩
theorem NuT.tk (h : NuT t w A n xs) (hk : TK t w w') (hu : TK 136 w w') : NuT t w' A n xs := by
 obtain ⟨rs, h1, h2, h3⟩ := h
 exact ⟨rs, h1.tk hk, h2, fun r hr => ⟨(h3 r hr).1.tk hu, (h3 r hr).2⟩⟩
theorem NuT.on (h : NuT t w A n xs) (hb : Below w.heap.size w w') : NuT t w' A n xs := h.tk (TK.below hb) (TK.below hb)
theorem NuT.len (h : NuT t w A n xs) : xs.length = n := by
 obtain ⟨rs, h1, rfl, h3⟩ := h
 have := h1.1.1
 simpa using this
end
theorem wpList_push2 {P : Program} (w : World) {ops : Array Oper} {rest : List Oper} {o : Oper} {a : Act} {Q : Exit → Act → World → Prop} (hgd : o.guard = none) (s x : Operand) (t : TypeId)
  (ho : o.op = .call { callee := .builtin .append, args := #[s, x], argTypes := #[t, t] }) {e : TypeId} {bytes : Nat} (hE : Elm P t e 1 bytes) (hby : bytes ≤ 64)
  (base : Nat) (v : Value) (xs : List Value) (hs : a.eval s = v) (hown : Grow w base e v xs) (u : Value) (hu : u.oneCell' = true) (hx : a.eval x = .slice (some ⟨w.heap.size, 0, none⟩) 1 1)
  (hn : xs.length + 1 ≤ 1000000) (hbase : base ≤ w.heap.size)
  (h : ∀ v' w', Grow w' base e v' (xs ++ [u]) → Below base w w' → (∀ t', t' ≠ e → TK t' w w') → wpList P ops Q rest (a.put o.dst v') w') : wpList P ops Q (o :: rest) a (w.alloc (.cells #[u] e)) := by
 have b1 : Below w.heap.size w (w.alloc (.cells #[u] e)) := below_lit _ _
 have hz : Bx (w.alloc (.cells #[u] e)) w.heap.size [u] := Bx.made_k w rfl #[u] e
 have hr1 := row_on hown b1
 refine wpList_app (A := some ⟨w.heap.size, 0, none⟩) (m := 1) (c := 1) hgd s x t ho hE (by omega) hby base v xs.length xs hs hr1 [u] hx (fun e => by cases e) rfl ?_ (by intro u' hu'; rw [List.mem_singleton.1 hu']; exact hu) hn (Nat.le_trans hbase b1.size) ?_
 ·intro ad had j u' hj
  cases had
  rw [add_plain, Nat.zero_add]
  exact hz.2 j u' hj
 ·intro v' w' hg hG
  refine h v' w' (by unfold Grow; rw [List.length_append]; exact hg) ?_ fun t' ht => (TK.below b1).trans (TK.row hr1 hG ht)
  exact (b1.mono hbase).grown hG (Nat.le_trans hbase b1.size) fun k hk => (hr1.lt k hk).1
theorem reg_a {N : List Nd} {n : Nat} (hf : N.all (formedS n) = true) {r : Nat} {x1 x2 x3 x4 : Int} (hx : N[r]? = some ⟨x1, x2, x3, x4⟩) (h7 : x1 = 7) : ∃ a : Nat, x2 = (a : Int) ∧ a < n := by
 have h5 := List.all_eq_true.1 hf _ (List.mem_of_getElem? hx)
 subst h7
 unfold formedS at h5
 simp only [Bool.and_eq_true] at h5
 have h6 := h5.2.2.1
 unfold usesS manyS at h6
 simp at h6
 unfold placeS at h6
 simp at h6
 exact ⟨x2.toNat, by omega, by omega⟩
end Go.Proofs.Ytcehklnonhalhaa
namespace Go.Proofs.Ytcehklnonhalhaa
open Go.RowKit
set_option maxRecDepth 4000
theorem wpList_push3 {P : Program} (w : World) {ops : Array Oper} {rest : List Oper} {o : Oper} {a : Act} {Q : Exit → Act → World → Prop} (hgd : o.guard = none) (s x : Operand) (t : TypeId)
  (ho : o.op = .call { callee := .builtin .append, args := #[s, x], argTypes := #[t, t] }) {e : TypeId} {bytes : Nat} (hE : Elm P t e 1 bytes) (hby : bytes ≤ 64)
  (base : Nat) (v : Value) (xs : List Value) (hs : a.eval s = v) (hown : Grow w base e v xs) (u : Value) (hu : u.oneCell' = true) (hx : a.eval x = .slice (some ⟨w.heap.size, 0, none⟩) 1 1)
  (hn : xs.length + 1 ≤ 1000000) (hbase : base ≤ w.heap.size)
  (h : ∀ g cap w', Grow w' base e (.slice (some ⟨g, 0, none⟩) (xs.length + 1) cap) (xs ++ [u]) → w.grownBy w' v.ownBlock → (v.ownBlock = some g ∨ w.heap.size ≤ g) → wpList P ops Q rest (a.put o.dst (.slice (some ⟨g, 0, none⟩) (xs.length + 1) cap)) w') : wpList P ops Q (o :: rest) a (w.alloc (.cells #[u] e)) := by
 have b1 : Below w.heap.size w (w.alloc (.cells #[u] e)) := below_lit _ _
 have hz : Bx (w.alloc (.cells #[u] e)) w.heap.size [u] := Bx.made_k w rfl #[u] e
 have hr1 := row_on hown b1
 obtain ⟨ht, i, z, hi, hz0, h3, h4, h5, _⟩ := hE
 refine wpList_append_lies _ hgd s x t ho base e i z 1 bytes ht hi hz0 h3 h4 h5 (by omega) v xs.length xs hs hr1 ⟨w.heap.size, 0, none⟩ 1 1 [u] hx rfl ?_ (by intro u' hu'; rw [List.mem_singleton.1 hu']; exact hu) (by omega) (by unfold maxLen; omega) ?_ (Nat.le_trans hbase b1.size) _ rfl ?_
 ·intro j u' hj
  rw [add_plain, Nat.zero_add]
  exact hz.2 j u' hj
 ·have : (xs.length + 1) * bytes ≤ 1000000 * 64 := Nat.mul_le_mul hn hby
  omega
 ·intro g cap w' hg hG hgl _
  refine h g cap w' (by unfold Grow; rw [List.length_append]; exact hg) (Gb.trans (Gb.of _ b1) hG) ?_
  rcases hgl with e | e
  ·exact .inl e
  ·right
   rw [e]
   exact b1.size
theorem Grow.kept {w w' : World} {base : Nat} {t : TypeId} {v : Value} {vs : List Value} {r : Option Nat} (h : Grow w base t v vs) (hg : w.grownBy w' r) (hne : ∀ b, v.ownBlock = some b → r ≠ some b) : Grow w' base t v vs := by
 unfold Grow at h ⊢
 refine World.ownsRow.kept h hg ?_
 cases e : v.ownBlock with
 | none => exact .inl rfl
 | some b => exact .inr fun e2 => hne b e e2.symm
theorem places_ok {n : Nat} {L : List Pt} (h : ∀ p ∈ L, bitsS n p = true) : ∀ p ∈ L, ∀ q ∈ p.bits, 0 ≤ q ∧ q.toNat < n := fun p hp q hq => by
 have h1 := h p hp
 unfold bitsS at h1
 have h2 := List.all_eq_true.1 (Bool.and_eq_true_iff.1 h1).2 q hq
 unfold placeS at h2
 simp at h2
 omega
set_option maxRecDepth 4000
structure Sm where
  A : Option Addr
  m : Nat
  c : Nat
  xs : List Nat
def smC (r : Sm) : Value := .slice r.A r.m r.c
def NnT (t t2 : TypeId) (w : World) (A : Option Addr) (n : Nat) (xss : List (List Nat)) : Prop := ∃ rs : List Sm, RwT t w A n (rs.map smC) ∧ rs.map Sm.xs = xss ∧ ∀ r ∈ rs, NuT t2 w r.A r.m r.xs ∧ Sw r.A r.m r.c
section
variable {w w' : World} {A : Option Addr} {n : Nat} {xss : List (List Nat)} {t t2 : TypeId}
theorem NnT.tk (h : NnT t t2 w A n xss) (h1 : TK t w w') (h2 : TK t2 w w') (h3 : TK 136 w w') : NnT t t2 w' A n xss := by
 obtain ⟨rs, g1, g2, g3⟩ := h
 exact ⟨rs, g1.tk h1, g2, fun r hr => ⟨(g3 r hr).1.tk h2 h3, (g3 r hr).2⟩⟩
theorem NnT.on (h : NnT t t2 w A n xss) (hb : Below w.heap.size w w') : NnT t t2 w' A n xss := h.tk (TK.below hb) (TK.below hb) (TK.below hb)
theorem NnT.len (h : NnT t t2 w A n xss) : xss.length = n := by
 obtain ⟨rs, h1, rfl, h3⟩ := h
 have := h1.1.1
 simpa using this
theorem NnT.at (h : NnT t t2 w A n xss) {k : Nat} (hk : k < n) : ∃ b off A' m c xs, A = some ⟨b, off, none⟩ ∧ b < w.heap.size ∧ Hid (xss[k]? = some xs) ∧ w.cell? ⟨b, off + k, none⟩ = some (.slice A' m c) ∧ NuT t2 w A' m xs ∧ Sw A' m c := by
 obtain ⟨rs, h1, rfl, h3⟩ := h
 obtain ⟨r, hr⟩ := look_ex (by have := h1.1.1; simpa using this) hk
 obtain ⟨b, off, e, hb, hc⟩ := h1.1.2 k (smC r) (by rw [List.getElem?_map, hr]; rfl)
 have g := h3 r (List.mem_of_getElem? hr)
 exact ⟨b, off, r.A, r.m, r.c, r.xs, e, hb, Lib.hid (by rw [List.getElem?_map, hr]; rfl), hc, g.1, g.2⟩
theorem NnT.nil_ : NnT t t2 w none 0 [] := ⟨[], ⟨Rw.nil_, Tg.nil_⟩, rfl, fun r hr => by cases hr⟩
end
/-! what Run tells -/
section
variable (N : List Nd) (I O : List Pt) (G R : List Int) (xss : List (List Nat))
end
end Go.Proofs.Ytcehklnonhalhaa
namespace Go.Proofs.Ytcehklnonhalhaa
open Go.RowKit
set_option maxRecDepth 4000
theorem elm_parts : Elm Try.prog 65 66 1 24 := by
 obtain ⟨i, h1, h2, h3, h4⟩ := Go.info_parts (P := Try.prog) (e := 66) (z := .slice none 0 0) (size := 1) (bytes := 24) (by kernel_rfl)
 refine ⟨Try.underlying65, i, _, h1, h2, h3, h4, rfl, fun u hu => ?_⟩
 have hu2 : u ∈ (.slice none 0 0 : Value).cells.toList := hu
 simp [Value.cells] at hu2
 subst hu2
 rfl
theorem NuT.at {t : TypeId} {w : World} {A : Option Addr} {n : Nat} {xs : List Nat} (h : NuT t w A n xs) {k : Nat} (hk : k < n) : ∃ b off A' m c x, A = some ⟨b, off, none⟩ ∧ Hid (xs[k]? = some x) ∧ w.cell? ⟨b, off + k, none⟩ = some (.slice A' m c) ∧ ResT w A' m x ∧ m ≤ 3200 := by
 obtain ⟨rs, h1, rfl, h3⟩ := h
 obtain ⟨r, hr⟩ := look_ex (by have := h1.1.1; simpa using this) hk
 obtain ⟨b, off, e, hb, hc⟩ := h1.1.2 k (snC r) (by rw [List.getElem?_map, hr]; rfl)
 have g := h3 r (List.mem_of_getElem? hr)
 exact ⟨b, off, r.A, r.m, r.c, r.x, e, Lib.hid (by rw [List.getElem?_map, hr]; rfl), hc, g.1, g.2.1⟩
theorem drewN_more (w : World) (a b : Nat) : (w.drewN a).drewN b = w.drewN (a + b) := World.drewN_drewN ..
set_option maxHeartbeats 1000000 in
theorem same7_eq {t1 t2 : TypeId} {A1 A2 : Option Addr} {n c1 c2 : Nat} {xs : List Nat} {w : World} (h1 : NuT t1 w A1 n xs) (h2 : NuT t2 w A2 n xs) (hn : n ≤ 100000) :
  Calls Try.prog 46 #[.slice A1 n c1, .slice A2 n c2] w fun en w' => en = .returned (.bool true) ∧ Below w.heap.size w w' := by
 go_enter Try.func46, Try.ntmps46
 go_wp2_with fail
 go_loopw [5] (fun iv wr => ∃ i : Nat, i ≤ n ∧ iv = .int .i64 i ∧ Below w.heap.size w wr) (fun iv _ => n - (intOf iv).toNat)
 case atStart => exact ⟨0, Nat.zero_le _, rfl, Below.refl _ _⟩
 case round =>
  obtain ⟨i, hi, rfl, BW⟩ := hrel
  by_cases hlt : i < n
  ·obtain ⟨b1, o1, B1, m1, d1, x1, rfl, HX1, q1, r1, hm1⟩ := (h1.on BW).at hlt
   obtain ⟨b2, o2, B2, m2, d2, x2, rfl, HX2, q2, r2, hm2⟩ := (h2.on BW).at hlt
   obtain rfl : x1 = x2 := by have := HX1.out.symm.trans HX2.out; injection this
   have HQ : Hid (∀ q, Calls Try.prog 77 #[.slice B1 m1 d1, .slice B2 m2 d2] (wr.drewN q) fun e w'' => e = .returned (.bool true) ∧ ∃ m, w'' = wr.drewN m) := Lib.hid fun q => by
    obtain ⟨xs1, s1, k1, v1⟩ := (r1.tk (TK.below (below_drewN (Below.refl _ _) q))).res
    obtain ⟨xs2, s2, k2, v2⟩ := (r2.tk (TK.below (below_drewN (Below.refl _ _) q))).res
    refine (same_any s1 s2 (by omega) (by omega)).mono ?_
    rintro e w'' ⟨d, rfl, rfl⟩
    exact ⟨by rw [decide_eq_true (canon_unique xs1 xs2 k1 k2 (by rw [v1, v2]))], _, drewN_more _ _ _⟩
   have i0 : (0 : Int) ≤ (i : Int) := by omega
   have i1 : (i : Int) < (n : Int) := by omega
   go_upto_region 6 with fail
   go_quiet ((go_at_call 77; exact HQ.out _))
   replace BW := Lib.hid fun n => below_drewN BW n
   go_wp2_with fail
   go_roundw
   case rel => exact ⟨i + 1, by omega, by go_num, BW.out _⟩
   case measure => simp [intOf]; omega
  ·obtain rfl : i = n := by omega
   go_wp2_with fail
   go_ret
   exact ⟨rfl, BW⟩
set_option maxRecDepth 4000
theorem bx3 {w : World} {s : Nat} {a b c : Value} (z : Bx w s [a, b, c]) : w.cell? ⟨s, 0, none⟩ = some a ∧ w.cell? ⟨s, 1, none⟩ = some b ∧ w.cell? ⟨s, 2, none⟩ = some c := ⟨z.2 0 _ rfl, z.2 1 _ rfl, z.2 2 _ rfl⟩
def Cl (w : World) (b o : Nat) (u : Value) : Prop := b < w.heap.size ∧ w.cell? ⟨b, o, none⟩ = some u
set_option maxRecDepth 4000
open Go.RowKit Go.ChangeShapes Go.WideShapes
set_option maxRecDepth 4000
theorem row_arg7 {W : World} {x : Addr} {len cap : Nat} {zs : List Int} (hl : len ≤ cap) (hm : cap ≤ maxLen) (hz : zs.length = cap) (hcell : ∀ i, i < zs.length → W.cell? (x.add i) = some (.int .u32 (zs.getD i 0))) (hwf : ∀ n ∈ zs, (Lit.int .u32 n).wf = true) :
  ∃ v, Arg W (some x) len cap v := by
 have hb : ∀ n ∈ zs, 0 ≤ n ∧ n < 4294967296 := fun n hn => by
  have := hwf n hn
  simp [Lit.wf, IntKind.min, IntKind.max, IntKind.signed, IntKind.bits] at this
  omega
 have hnat : ∀ n ∈ zs, ((n.toNat : Nat) : Int) = n := fun n hn => by have := hb n hn; omega
 refine ⟨_, (zs.take len).map Int.toNat, ⟨⟨?_, ?_⟩, ?_⟩, hl, hm, rfl⟩
 ·rw [U_len, List.length_map, List.length_take, hz]
  omega
 ·intro i u hu
  rw [U_at, List.getElem?_map, List.getElem?_take] at hu
  split at hu
  ·rename_i hi
   have hil : i < zs.length := by omega
   rw [List.getElem?_eq_getElem hil] at hu
   simp only [Option.map_some, Option.some.injEq] at hu
   rw [hnat _ (List.getElem_mem hil)] at hu
   have hc := hcell i hil
   rw [List.getD_eq_getElem?_getD, List.getElem?_eq_getElem hil, Option.getD_some, hu] at hc
   obtain ⟨b, off, spot⟩ := x
   have hc0 := hcell 0 (by omega)
   have hspot : spot = none := by simpa [Addr.add] using World.cell?_spot hc0
   subst hspot
   have hadd : (⟨b, off, none⟩ : Addr).add i = ⟨b, off + i, none⟩ := by
    unfold Addr.add
    split
    ·rename_i e; subst e; rfl
    ·rfl
   rw [hadd] at hc
   refine ⟨b, off, rfl, ?_, hc⟩
   rcases Nat.lt_or_ge b W.heap.size with h1 | h1
   ·exact h1
   ·simp only [World.cell?] at hc
    rw [Array.getElem?_eq_none h1] at hc
    cases hc
  ·simp at hu
 ·intro y hy
  obtain ⟨n, hn, rfl⟩ := List.mem_map.1 hy
  have := hb n (List.mem_of_mem_take hn)
  omega
section
variable {H : Type} {enc : TypeId × Value → H} {w : World}
theorem cells_u32 : Try.prog.cellsOf 136 = 1 := by kernel_rfl
theorem cells_nat : Try.prog.cellsOf 100 = 1 := by kernel_rfl
theorem cells_nats : Try.prog.cellsOf 68 = 1 := by kernel_rfl
end
end Go.Proofs.Ytcehklnonhalhaa
