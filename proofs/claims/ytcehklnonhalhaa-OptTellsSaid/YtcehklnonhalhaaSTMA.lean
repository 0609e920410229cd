/-
  What the proofs of OptTells need: MA.
-/
import Derived.WalkKit
import Derived.ProofKit
import Derived.Below
import Derived.Lib.Hide
import Derived.Deep.Draws
import Derived.Laws.Rows
import Derived.Lib.BitFns
import Derived.Lib.TrailingZeros
set_option linter.unusedVariables false
namespace Go.Proofs.Ytcehklnonhalhaa
open Go.RowKit
section
variable {w w' : World} {B B' n : Nat} {A : Option Addr} {xs : List Value}
end
def Own (w : World) (g : Nat) (t : TypeId) (cs : List Value) : Prop:=w.heap[g]? = some (.cells cs.toArray t (0,0))
section
variable {w w' : World} {g : Nat} {t : TypeId} {cs : List Value}
theorem Own.lt (h : Own w g t cs) : g < w.heap.size:=by
 unfold Own at h
 rcases Nat.lt_or_ge g w.heap.size with hlt | hge
 ·exact hlt
 rw [Array.getElem?_eq_none hge] at h
 cases h
theorem Own.cell (h : Own w g t cs) (i : Nat) : w.cell? ⟨g,i,none⟩ = cs[i]?:=by
 rw [cell_of_row w g i cs.toArray t (0,0) h]
 simp
theorem Own.free (h : Own w g t cs) (i : Nat) : w.frozen? ⟨g,i,none⟩ = false:=by
 unfold Own at h
 simp [World.frozen?,h]
theorem Own.made (w : World) (t : TypeId) (cs : List Value) : Own (w.alloc (.cells cs.toArray t)) w.heap.size t cs:=heap_alloc_new w _
theorem Own.put (h : Own w g t cs) (i : Nat) (u : Value) : Own (w.setCell ⟨g,i,none⟩ u) g t (cs.set i u):=by
 unfold Own at h ⊢
 simp [World.setCell,Array.getElem?_modify,h]
theorem Own.below {B : Nat} (h : Own w g t cs) (hb : Below B w w') (hg : g < B) : Own w' g t cs:=(hb.block g hg).trans h
end
theorem zaD {B : Nat} {a w : World} (h : Below B a w) (n : Nat) : Below B a (w.drewN n):=⟨h.os,h.tape,h.output,h.size,h.block⟩
theorem Below.step {a b c : World} (h : Below a.heap.size a b) (k : Below b.heap.size b c) : Below a.heap.size a c:=h.trans (k.mono h.size)
section
variable {w w' : World} {B B' n : Nat} {A : Option Addr} {xs : List Nat}
end
end Go.Proofs.Ytcehklnonhalhaa
namespace Go.Proofs.Ytcehklnonhalhaa
def val : List Nat → Nat
 | [] => 0
 | x :: xs => x + 4294967296 * val xs
def blen (x : Nat) : Nat:=if x = 0 then 0 else x.log2 + 1
theorem blen_le (x k : Nat) : blen x ≤ k ↔ x < 2 ^ k:=by
 unfold blen
 split
 ·rename_i h; subst h; simp [Nat.two_pow_pos]
 rename_i h; rw [Nat.succ_le_iff,Nat.log2_lt h]
end Go.Proofs.Ytcehklnonhalhaa
