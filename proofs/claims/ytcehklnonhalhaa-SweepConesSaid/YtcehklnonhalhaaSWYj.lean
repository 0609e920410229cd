/-
  What the proofs of SweepTells and SweepCones and SweepSame need: Yj Yk.
-/
import Derived.Test.YtcehklnonhalhaaSWYh
import Derived.Laws.StructEq
import Derived.WalkMore
import Derived.ScopeJumps
namespace Go.Proofs.Ytcehklnonhalhaa
open Go.RowKit
set_option linter.unusedVariables false
set_option maxRecDepth 4000

/-- a place that reads so. -/
def IAt (w : World) (b o : Nat) (x : Int) : Prop := b < w.heap.size ∧ w.cell? ⟨b, o, none⟩ = some (.int .i64 x)
theorem IAt.on {w w' : World} {b o : Nat} {x : Int} (h : IAt w b o x) (hb : Below w.heap.size w w') : IAt w' b o x := ⟨Nat.lt_of_lt_of_le h.1 hb.size, (hb.cell (p := ⟨b, o, none⟩) h.1).trans h.2⟩
theorem Is.iat {w : World} {A : Option Addr} {n : Nat} {L : List Int} (h : Is w A n L) {k : Nat} (hk : k < n) : ∃ b off, A = some ⟨b, off, none⟩ ∧ IAt w b (off + k) (L.getD k 0) := by
  obtain ⟨x, hx⟩ := look_ex h.1 hk
  obtain ⟨b, off, h1, h2, h3⟩ := h.2 k _ hx
  refine ⟨b, off, h1, h2, ?_⟩
  rw [List.getD_eq_getElem?_getD, hx]
  exact h3
end Go.Proofs.Ytcehklnonhalhaa
namespace Go.Proofs.Ytcehklnonhalhaa
open Go.RowKit
set_option linter.unusedVariables false
set_option maxRecDepth 4000
attribute [local go_sem ↓] node_eql node_neq

theorem row_type {w : World} {base g n c size : Nat} {t : TypeId} {xs : List Value} (h : w.ownsRow base t size (.slice (some ⟨g, 0, none⟩) n c) n xs) : ∃ cur, w.heap[g]? = some (.cells cur t (0, 0)) ∧ base ≤ g := by
  obtain ⟨_, h | ⟨g', _, cur, e', hb, hg, _⟩⟩ := h
  · cases h.1
  · injection e' with e'
    injection e' with e'
    injection e' with e'
    subst e'
    exact ⟨cur, hg, hb⟩
theorem type_ne {w : World} {a b : Nat} {t t' : TypeId} {x y : Array Value} {f f' : Nat × Nat} (h : w.heap[a]? = some (.cells x t f)) (k : w.heap[b]? = some (.cells y t' f')) (ht : t ≠ t') : a ≠ b := fun e => by
  rw [e, k] at h
  injection h with h
  injection h with _ h
  exact ht h.symm
theorem flat_put : ∀ (M : List Nd) (q : Nat) (a b c d : Int), ((((M.flatMap ndC).set (q * 4) (.int .i64 a)).set (q * 4 + 1) (.int .i64 b)).set (q * 4 + 2) (.int .i64 c)).set (q * 4 + 3) (.int .i64 d) = (M.set q ⟨a, b, c, d⟩).flatMap ndC
  | [], q, a, b, c, d => by simp
  | x :: M, 0, a, b, c, d => by simp [ndC]
  | x :: M, q + 1, a, b, c, d => by
    have ih := flat_put M q a b c d
    rw [show (q + 1) * 4 = q * 4 + 4 by omega, List.set_cons_succ, List.flatMap_cons, List.flatMap_cons, ← ih]
    rfl
theorem flat_putI : ∀ (L : List Int) (q : Nat) (a : Int), (L.flatMap inC).set q (.int .i64 a) = (L.set q a).flatMap inC
  | [], q, a => by simp
  | x :: L, 0, a => by simp [inC]
  | x :: L, q + 1, a => by
    have ih := flat_putI L q a
    rw [List.set_cons_succ, List.flatMap_cons, List.flatMap_cons, ← ih]
    rfl
/-- one block is as it was. -/
def KB (p : Nat) (w w' : World) : Prop := w'.heap[p]? = w.heap[p]?
theorem KB.ok (p : Nat) : LexG.RelOk (KB p) := ⟨fun _ => rfl, fun _ _ _ h k => Eq.trans k h⟩
instance (p : Nat) (w : World) : Nonempty (LexG.Wd (KB p) w) := ⟨⟨w, rfl⟩⟩
theorem KB.set {p : Nat} (w : World) {g : Nat} (h : p ≠ g) (o : Nat) (v : Value) : KB p w (w.setCell ⟨g, o, none⟩ v) := Below.heap_setCell w ⟨g, o, none⟩ v p h
/-- the folder: a variable of its own, rows of nodes and of places of its own. -/
structure Fd (w : World) (base p : Nat) (vn vs : Value) (M : List Nd) (S : List Int) : Prop where
  ow : Own w p 74 [vn, vs]
  rn : w.ownsRow base 43 4 vn M.length (M.flatMap ndC)
  rs : w.ownsRow base 3 1 vs M.length (S.flatMap inC)
  ls : S.length = M.length
  lo : base ≤ p
theorem Fd.on {w w' : World} {base p : Nat} {vn vs : Value} {M : List Nd} {S : List Int} (h : Fd w base p vn vs M S) (hb : Below w.heap.size w w') : Fd w' base p vn vs M S :=
  ⟨h.ow.below hb h.ow.lt, row_on h.rn hb, row_on h.rs hb, h.ls, h.lo⟩
end Go.Proofs.Ytcehklnonhalhaa
