
/-
  Memory words of this seat's proofs: a slice that reads as a list, a block of the call's own that is known whole. Plain lemmas on worlds.
-/
import Derived.WalkKit
import Derived.ProofKit
import Derived.Below
import Derived.Lib.Hide
import Derived.Deep.Draws
import Derived.Laws.Rows
namespace Go.Proofs.YthaehfdjldjdiaaDoor
open Go.RowKit

/-- The slice at A (nil where nothing is read) holds the cells xs; each lies below block B. -/
def Sl (w : World) (B : Nat) (A : Option Addr) (n : Nat) (xs : List Value) : Prop :=
  xs.length = n ∧ ∀ i u, xs[i]? = some u → ∃ b off, A = some ⟨b, off, none⟩ ∧ b < B ∧ w.cell? ⟨b, off + i, none⟩ = some u

section
variable {w w' : World} {B B' n : Nat} {A : Option Addr} {xs : List Value}
theorem Sl.len (h : Sl w B A n xs) : xs.length = n := h.1
theorem Sl.nil_ : Sl w B A 0 [] := ⟨rfl, fun i u hu => by simp at hu⟩
theorem Sl.look {k : Nat} (h : Sl w B A n xs) (hk : k < n) : ∃ b off u, A = some ⟨b, off, none⟩ ∧ b < B ∧ xs[k]? = some u ∧ w.cell? ⟨b, off + k, none⟩ = some u := by
  have hl : k < xs.length := by have := h.1; omega
  obtain ⟨b, off, e, hb, hc⟩ := h.2 k xs[k] (List.getElem?_eq_getElem hl)
  exact ⟨b, off, xs[k], e, hb, List.getElem?_eq_getElem hl, hc⟩
theorem Sl.keep (h : Sl w B A n xs) (hk : ∀ p : Addr, p.block < B → w'.cell? p = w.cell? p) : Sl w' B A n xs :=
  ⟨h.1, fun i u hu => by
    obtain ⟨b, off, e, hb, hc⟩ := h.2 i u hu
    exact ⟨b, off, e, hb, (hk _ hb).trans hc⟩⟩
theorem Sl.more (h : Sl w B A n xs) (hB : B ≤ B') : Sl w B' A n xs :=
  ⟨h.1, fun i u hu => by
    obtain ⟨b, off, e, hb, hc⟩ := h.2 i u hu
    exact ⟨b, off, e, by omega, hc⟩⟩
theorem Sl.below (h : Sl w B A n xs) (hb : Below B w w') : Sl w' B A n xs := h.keep fun _ hp => hb.cell hp
theorem Sl.take (h : Sl w B A n xs) {m : Nat} (hm : m ≤ n) : Sl w B A m (xs.take m) :=
  ⟨by rw [List.length_take, h.1]; omega, fun i u hu => by
    refine h.2 i u ?_
    rw [List.getElem?_take] at hu
    split at hu
    · exact hu
    · cases hu⟩
theorem Sl.off {b o : Nat} (h : Sl w B (some ⟨b, o, none⟩) n xs) {k : Nat} : Sl w B (some ⟨b, o + k, none⟩) (n - k) (xs.drop k) :=
  ⟨by rw [List.length_drop, h.1], fun i u hu => by
    rw [List.getElem?_drop] at hu
    obtain ⟨b', o', e, hb, hc⟩ := h.2 _ u hu
    injection e with e
    injection e with e1 e2
    subst e1 e2
    exact ⟨b, o + k, rfl, hb, by rw [Nat.add_assoc]; exact hc⟩⟩
end

/-- Block g is just these cells, of element type t, none of them frozen. -/
def Own (w : World) (g : Nat) (t : TypeId) (cs : List Value) : Prop := w.heap[g]? = some (.cells cs.toArray t (0, 0))

section
variable {w w' : World} {g : Nat} {t : TypeId} {cs : List Value}
theorem Own.lt (h : Own w g t cs) : g < w.heap.size := by
  unfold Own at h
  rcases Nat.lt_or_ge g w.heap.size with hlt | hge
  · exact hlt
  · rw [Array.getElem?_eq_none hge] at h
    cases h
theorem Own.cell (h : Own w g t cs) (i : Nat) : w.cell? ⟨g, i, none⟩ = cs[i]? := by
  rw [cell_of_row w g i cs.toArray t (0, 0) h]
  simp
theorem Own.free (h : Own w g t cs) (i : Nat) : w.frozen? ⟨g, i, none⟩ = false := by
  unfold Own at h
  simp [World.frozen?, h]
theorem Own.made (w : World) (t : TypeId) (cs : List Value) : Own (w.alloc (.cells cs.toArray t)) w.heap.size t cs := heap_alloc_new w _
theorem Own.put (h : Own w g t cs) (i : Nat) (u : Value) : Own (w.setCell ⟨g, i, none⟩ u) g t (cs.set i u) := by
  unfold Own at h ⊢
  simp [World.setCell, Array.getElem?_modify, h]
theorem Own.below {B : Nat} (h : Own w g t cs) (hb : Below B w w') (hg : g < B) : Own w' g t cs := (hb.block g hg).trans h
theorem Own.sl (h : Own w g t cs) : Sl w w.heap.size (some ⟨g, 0, none⟩) cs.length cs :=
  ⟨rfl, fun i u hu => ⟨g, 0, rfl, h.lt, by rw [Nat.zero_add, h.cell i]; exact hu⟩⟩
end
theorem below_drewN {B : Nat} {a w : World} (h : Below B a w) (n : Nat) : Below B a (w.drewN n) := ⟨h.os, h.tape, h.output, h.size, h.block⟩
theorem Below.step {a b c : World} (h : Below a.heap.size a b) (k : Below b.heap.size b c) : Below a.heap.size a c := h.trans (k.mono h.size)

/-- Numbers of 32 bits as cells. -/
def U (xs : List Nat) : List Value := xs.map fun x : Nat => Value.int .u32 (x : Int)
theorem U_len (xs : List Nat) : (U xs).length = xs.length := by simp [U]
theorem U_at (xs : List Nat) (i : Nat) : (U xs)[i]? = (xs[i]?).map fun x : Nat => Value.int .u32 (x : Int) := by simp [U]
theorem U_take (xs : List Nat) (m : Nat) : (U xs).take m = U (xs.take m) := by simp [U, List.map_take]
theorem U_drop (xs : List Nat) (m : Nat) : (U xs).drop m = U (xs.drop m) := by simp [U, List.map_drop]
theorem U_set (xs : List Nat) (i x : Nat) : (U xs).set i (.int .u32 (x : Int)) = U (xs.set i x) := by simp [U, List.map_set]

/-- Every part is below 2^32. -/
def Dg (xs : List Nat) : Prop := ∀ x ∈ xs, x < 4294967296

/-- The slice at A reads as the parts xs. -/
def NR (w : World) (B : Nat) (A : Option Addr) (n : Nat) (xs : List Nat) : Prop := Sl w B A n (U xs) ∧ Dg xs

section
variable {w w' : World} {B B' n : Nat} {A : Option Addr} {xs : List Nat}
theorem NR.len (h : NR w B A n xs) : xs.length = n := by rw [← U_len, h.1.1]
theorem NR.look {k : Nat} (h : NR w B A n xs) (hk : k < n) : ∃ b off x, A = some ⟨b, off, none⟩ ∧ b < B ∧ Hid (xs.getD k 0 = x) ∧ x < 4294967296 ∧ w.cell? ⟨b, off + k, none⟩ = some (.int .u32 (x : Int)) := by
  obtain ⟨b, off, u, e, hb, hu, hc⟩ := h.1.look hk
  have hl : k < xs.length := by have := h.len; omega
  rw [U_at, List.getElem?_eq_getElem hl] at hu
  simp at hu
  subst hu
  refine ⟨b, off, xs[k], e, hb, ?_, h.2 _ (List.getElem_mem hl), hc⟩
  show _ = _
  rw [List.getD_eq_getElem?_getD, List.getElem?_eq_getElem hl]; rfl
theorem NR.more (h : NR w B A n xs) (hB : B ≤ B') : NR w B' A n xs := ⟨h.1.more hB, h.2⟩
theorem NR.below (h : NR w B A n xs) (hb : Below B w w') : NR w' B A n xs := ⟨h.1.below hb, h.2⟩
theorem NR.on (h : NR w w.heap.size A n xs) (hb : Below w.heap.size w w') : NR w' w'.heap.size A n xs := (h.below hb).more hb.size
theorem NR.take (h : NR w B A n xs) {m : Nat} (hm : m ≤ n) : NR w B A m (xs.take m) :=
  ⟨by rw [← U_take]; exact h.1.take hm, fun x hx => h.2 x (List.mem_of_mem_take hx)⟩
end
theorem Own.nr {w : World} {g : Nat} {xs : List Nat} {t : TypeId} (h : Own w g t (U xs)) (hd : Dg xs) : NR w w.heap.size (some ⟨g, 0, none⟩) xs.length xs :=
  ⟨by rw [← U_len]; exact h.sl, hd⟩
end Go.Proofs.YthaehfdjldjdiaaDoor
