
/-
  Words of memory for nets: nodes, ports and places that a slice reads; net's leaf functions.
-/
import Derived.Test.YtcfmgoilncninaaMA
import Derived.Test.YtcfmgoilncninaaGa
import Derived.Test.YtcfmgoilncninaaChecked
import Derived.Deep.RegionHeld3
import Derived.Lib.SmallJoins
import Derived.Deep.DeepCutAuto
import Derived.LoopN
import Derived.Laws.AppendOwn
import Derived.WalkKit
import Derived.ProofKit
import Derived.Below
import Derived.Lib.Hide
import Derived.Deep.Draws
import Derived.Laws.Rows
namespace Go.Proofs.Ytcfmgoilncninaa
open Go.RowKit
set_option linter.unusedVariables false
set_option maxRecDepth 4000

/-- a port: its name and its bits' places. -/
structure Pt where
  name : ByteArray
  bits : List Int
def ndC (x : Nd) : List Value := [.int .i64 x.k, .int .i64 x.a, .int .i64 x.b, .int .i64 x.c]
def ndA (x : Nd) : Value := .agg #[.int .i64 x.k, .int .i64 x.a, .int .i64 x.b, .int .i64 x.c]
/-- a node lies there. -/
def NdAt (w : World) (b o : Nat) (x : Nd) : Prop := b < w.heap.size ∧ w.cell? ⟨b, o, none⟩ = some (.int .i64 x.k) ∧ w.cell? ⟨b, o + 1, none⟩ = some (.int .i64 x.a) ∧ w.cell? ⟨b, o + 2, none⟩ = some (.int .i64 x.b) ∧ w.cell? ⟨b, o + 3, none⟩ = some (.int .i64 x.c)
/-- a slice of places reads so. -/
def Is (w : World) (A : Option Addr) (n : Nat) (L : List Int) : Prop := L.length = n ∧ ∀ k x, L[k]? = some x → ∃ b off, A = some ⟨b, off, none⟩ ∧ b < w.heap.size ∧ w.cell? ⟨b, off + k, none⟩ = some (.int .i64 x)
def Ns (w : World) (A : Option Addr) (n : Nat) (L : List Nd) : Prop := L.length = n ∧ ∀ k x, L[k]? = some x → ∃ b off, A = some ⟨b, off, none⟩ ∧ NdAt w b (off + k * 4) x
def Ps (w : World) (A : Option Addr) (n : Nat) (L : List Pt) : Prop := L.length = n ∧ ∀ k p, L[k]? = some p → ∃ b off A' m c, A = some ⟨b, off, none⟩ ∧ b < w.heap.size ∧ w.cell? ⟨b, off + k * 2, none⟩ = some (.string p.name) ∧ w.cell? ⟨b, off + k * 2 + 1, none⟩ = some (.slice A' m c) ∧ (m ≤ c ∧ (A' = none → c = 0)) ∧ c ≤ maxLen ∧ Is w A' m p.bits
section
variable {w w' : World} {A : Option Addr} {n : Nat}
theorem NdAt.on {b o : Nat} {x : Nd} (h : NdAt w b o x) (hb : Below w.heap.size w w') : NdAt w' b o x :=
  ⟨Nat.lt_of_lt_of_le h.1 hb.size, (hb.cell (p := ⟨b, o, none⟩) h.1).trans h.2.1, (hb.cell (p := ⟨b, o + 1, none⟩) h.1).trans h.2.2.1, (hb.cell (p := ⟨b, o + 2, none⟩) h.1).trans h.2.2.2.1, (hb.cell (p := ⟨b, o + 3, none⟩) h.1).trans h.2.2.2.2⟩
theorem Is.on {L : List Int} (h : Is w A n L) (hb : Below w.heap.size w w') : Is w' A n L :=
  ⟨h.1, fun k x hx => by
    obtain ⟨b, off, h1, h2, h3⟩ := h.2 k x hx
    exact ⟨b, off, h1, Nat.lt_of_lt_of_le h2 hb.size, (hb.cell (p := ⟨b, off + k, none⟩) h2).trans h3⟩⟩
theorem Ns.on {L : List Nd} (h : Ns w A n L) (hb : Below w.heap.size w w') : Ns w' A n L :=
  ⟨h.1, fun k x hx => by
    obtain ⟨b, off, h1, h2⟩ := h.2 k x hx
    exact ⟨b, off, h1, h2.on hb⟩⟩
theorem Ps.on {L : List Pt} (h : Ps w A n L) (hb : Below w.heap.size w w') : Ps w' A n L :=
  ⟨h.1, fun k x hx => by
    obtain ⟨b, off, A', m, c, h1, h2, h3, h4, h5, h6, h7⟩ := h.2 k x hx
    exact ⟨b, off, A', m, c, h1, Nat.lt_of_lt_of_le h2 hb.size, (hb.cell (p := ⟨b, off + k * 2, none⟩) h2).trans h3, (hb.cell (p := ⟨b, off + k * 2 + 1, none⟩) h2).trans h4, h5, h6, h7.on hb⟩⟩
theorem Is.nil_ : Is w A 0 [] := ⟨rfl, fun k x h => by simp at h⟩
theorem Ns.nil_ : Ns w A 0 [] := ⟨rfl, fun k x h => by simp at h⟩
theorem Ps.nil_ : Ps w A 0 [] := ⟨rfl, fun k x h => by simp at h⟩
end
theorem look_ex {α : Type} {L : List α} {k n : Nat} (hn : L.length = n) (hk : k < n) : ∃ x, L[k]? = some x := ⟨L[k]'(by omega), List.getElem?_eq_getElem (by omega)⟩
theorem takeall {α : Type} {p : α → Bool} {L : List α} {k : Nat} {x : α} (h : (L.take k).all p = true) (hk : L[k]? = some x) (hx : p x = true) : (L.take (k + 1)).all p = true := by
  rw [List.take_add_one, hk, List.all_append, h]
  simp [hx]
theorem notall {α : Type} {p : α → Bool} {L : List α} {k : Nat} {x : α} (hk : L[k]? = some x) (hx : p x = false) : L.all p = false := by
  rw [List.all_eq_false]
  exact ⟨x, List.mem_of_getElem? hk, by rw [hx]; decide⟩
theorem beq_tt {q k : Int} (h : q = k) : (q == k) = true := by simp [h]
theorem beq_ff {q k : Int} (h : q ≠ k) : (q == k) = false := by simp [h]
/-- a node with no more than its kind has. -/
def bareS (x : Nd) : Nd := if x.k = 1 then ⟨x.k, 0, 0, 0⟩ else if x.k = 0 ∨ x.k = 2 then ⟨x.k, x.a, 0, 0⟩ else if x.k = 3 ∨ x.k = 4 ∨ x.k = 5 ∨ x.k = 7 then ⟨x.k, x.a, x.b, 0⟩ else x
def kindS (k : Int) : Bool := decide (0 ≤ k) && decide (k ≤ 7)
def placeS (n p : Int) : Bool := decide (0 ≤ p) && decide (p < n)
def bitS (v : Int) : Bool := decide (v = 0) || decide (v = 1)
theorem below3 (w : World) (o1 o2 o3 : Obj) : Below w.heap.size w (((w.alloc o1).alloc o2).alloc o3) := ((((Below.refl _ _).alloc (by simp <;> omega) _).alloc (by simp <;> omega) _).alloc (by simp <;> omega) _)
theorem below2 (w : World) (o1 o2 : Obj) : Below w.heap.size w ((w.alloc o1).alloc o2) := (((Below.refl _ _).alloc (by simp <;> omega) _).alloc (by simp <;> omega) _)
theorem below1 (w : World) (o1 : Obj) : Below w.heap.size w (w.alloc o1) := ((Below.refl _ _).alloc (by simp <;> omega) _)
theorem below_more {w0 w : World} (h : Below w0.heap.size w0 w) (o : Obj) : Below w0.heap.size w0 (w.alloc o) := h.alloc h.size o
end Go.Proofs.Ytcfmgoilncninaa
