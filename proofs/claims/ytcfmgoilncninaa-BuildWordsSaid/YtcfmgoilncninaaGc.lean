
/-
  net: a node is formed as its kind asks; all nodes are.
-/
import Derived.Test.YtcfmgoilncninaaGb
import Derived.Test.YtcfmgoilncninaaLex
import Derived.Laws.StructEq
namespace Go.Proofs.Ytcfmgoilncninaa
open Go.RowKit
set_option linter.unusedVariables false
set_option maxRecDepth 4000

/-- a variable that is read alone: its cells. -/
def Bx (w : World) (s : Nat) (vs : List Value) : Prop := s < w.heap.size ∧ ∀ i u, vs[i]? = some u → w.cell? ⟨s, i, none⟩ = some u
theorem Bx.on {w w' : World} {s : Nat} {vs : List Value} (h : Bx w s vs) (hb : Below w.heap.size w w') : Bx w' s vs :=
  ⟨Nat.lt_of_lt_of_le h.1 hb.size, fun i u hu => (hb.cell (p := ⟨s, i, none⟩) h.1).trans (h.2 i u hu)⟩
theorem Bx.made_k (w : World) {s : Nat} (hs : w.heap.size = s) (vs : Array Value) (t : TypeId) : Bx (w.alloc (.cells vs t)) s vs.toList := by
  subst hs
  refine ⟨by simp, fun i u hu => ?_⟩
  rw [cell_of_row _ w.heap.size i vs t (0, 0) (heap_alloc_new w _)]
  simpa using hu
theorem below_lit (w : World) (o : Obj) : Below w.heap.size w (w.alloc o) := (Below.refl _ _).alloc (Nat.le_refl _) o
theorem size_lit (w : World) (o : Obj) {s : Nat} (h : w.heap.size = s) : (w.alloc o).heap.size = s + 1 := by subst h; simp
theorem below_k {a w : World} (h : Below a.heap.size a w) (o : Obj) : Below a.heap.size a (w.alloc o) := h.alloc h.size o
/-- what a kind asks of a node beside. -/
def restS (x : Nd) : Bool := if x.k = 0 then bitS x.a else if x.k = 7 then bitS x.b else true
/-- is a node formed, among so many? -/
def sameN (x y : Nd) : Bool := (x.k == y.k && (x.a == y.a && (x.b == y.b && x.c == y.c)))
def formedS (n : Int) (x : Nd) : Bool := kindS x.k && (sameN x (bareS x) && ((usesS x).all (placeS n) && restS x))
theorem usesS_len (k a b c : Int) : (usesS ⟨k, a, b, c⟩) = [a, b, c].take (manyS k) := rfl
theorem ret_bool {a b : Bool} (h : a = b) : Ending.returned (.bool a) = Ending.returned (.bool b) := by rw [h]
theorem manyS_le (k : Int) : manyS k ≤ 3 := by unfold manyS; repeat' split
                                               all_goals omega
theorem take_at {k : Int} {p q r : Int} (j : Nat) (x : Int) (hlt : j < manyS k) (hx : (usesS ⟨k, p, q, r⟩)[j]? = some x) : [Value.int .i64 p, .int .i64 q, .int .i64 r][j]? = some (.int .i64 x) := by
  unfold usesS at hx
  rw [List.getElem?_take, if_pos hlt] at hx
  rcases j with _ | _ | _ | j
  · simp at hx; simp [hx]
  · simp at hx; simp [hx]
  · simp at hx; simp [hx]
  · simp at hx
theorem usesS_length (x : Nd) : (usesS x).length = manyS x.k := by
  have := manyS_le x.k
  unfold usesS
  rw [List.length_take]
  simp only [List.length_cons, List.length_nil]
  omega
theorem sameN_refl (x : Nd) : sameN x x = true := by unfold sameN; simp
theorem bareS_k (k p q r : Int) : ∃ p' q' r', bareS ⟨k, p, q, r⟩ = ⟨k, p', q', r'⟩ := by
  unfold bareS
  simp only
  repeat' split
  all_goals exact ⟨_, _, _, rfl⟩
theorem Ns.at {w : World} {A : Option Addr} {n : Nat} {L : List Nd} (h : Ns w A n L) {k : Nat} (hk : k < n) : ∃ b off x1 x2 x3 x4, A = some ⟨b, off, none⟩ ∧ Hid (L[k]? = some ⟨x1, x2, x3, x4⟩) ∧ w.cell? ⟨b, off + k * 4, none⟩ = some (.int .i64 x1) ∧ w.cell? ⟨b, off + k * 4 + 1, none⟩ = some (.int .i64 x2) ∧ w.cell? ⟨b, off + k * 4 + 2, none⟩ = some (.int .i64 x3) ∧ w.cell? ⟨b, off + k * 4 + 3, none⟩ = some (.int .i64 x4) := by
  obtain ⟨⟨x1, x2, x3, x4⟩, hx⟩ := look_ex h.1 hk
  obtain ⟨b, off, h1, h2, h3, h4, h5, h6⟩ := h.2 k _ hx
  exact ⟨b, off, x1, x2, x3, x4, h1, Lib.hid hx, h3, h4, h5, h6⟩
end Go.Proofs.Ytcfmgoilncninaa
