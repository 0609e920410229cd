/-
  Memory words of this seat's proofs: a slice that reads as a list, a block of the call's own that is known whole. Plain lemmas on worlds.
  Plain mathematics of numbers as lists of parts of 32 bits: nothing of a program.
  Plain mathematics of nat's loops: sums and differences, part by part.
  Plain mathematics of nat's loops: products, row by row.
  Plain mathematics of nat's loops: shifts.
  Plain mathematics of numbers as lists of bits, as the reference has them.
-/
import Derived.WalkKit
import Derived.ProofKit
import Derived.Below
import Derived.Lib.Hide
import Derived.Deep.Draws
import Derived.Laws.Rows
import Derived.Lib.BitFns
import Derived.Lib.TrailingZeros
namespace Go.Proofs.YtkoacjnffbfgiaaDoor
open Go.RowKit

/-- The slice at A (nil where nothing is read) holds the cells xs; each lies below block B. -/
def Sl (w : World) (B : Nat) (A : Option Addr) (n : Nat) (xs : List Value) : Prop :=
  xs.length = n ∧ ∀ i u, xs[i]? = some u → ∃ b off, A = some ⟨b, off, none⟩ ∧ b < B ∧ w.cell? ⟨b, off + i, none⟩ = some u

section
variable {w w' : World} {B B' n : Nat} {A : Option Addr} {xs : List Value}
theorem Sl.len (h : Sl w B A n xs) : xs.length = n := h.1
theorem Sl.nil_ : Sl w B A 0 [] := ⟨rfl, fun i u hu => by simp at hu⟩
theorem Sl.look {k : Nat} (h : Sl w B A n xs) (hk : k < n) : ∃ b off u, A = some ⟨b, off, none⟩ ∧ b < B ∧ xs[k]? = some u ∧ w.cell? ⟨b, off + k, none⟩ = some u := by
  have hl : k < xs.length := by have := h.1; omega
  obtain ⟨b, off, e, hb, hc⟩ := h.2 k xs[k] (List.getElem?_eq_getElem hl)
  exact ⟨b, off, xs[k], e, hb, List.getElem?_eq_getElem hl, hc⟩
theorem Sl.keep (h : Sl w B A n xs) (hk : ∀ p : Addr, p.block < B → w'.cell? p = w.cell? p) : Sl w' B A n xs :=
  ⟨h.1, fun i u hu => by
    obtain ⟨b, off, e, hb, hc⟩ := h.2 i u hu
    exact ⟨b, off, e, hb, (hk _ hb).trans hc⟩⟩
theorem Sl.more (h : Sl w B A n xs) (hB : B ≤ B') : Sl w B' A n xs :=
  ⟨h.1, fun i u hu => by
    obtain ⟨b, off, e, hb, hc⟩ := h.2 i u hu
    exact ⟨b, off, e, by omega, hc⟩⟩
theorem Sl.below (h : Sl w B A n xs) (hb : Below B w w') : Sl w' B A n xs := h.keep fun _ hp => hb.cell hp
theorem Sl.take (h : Sl w B A n xs) {m : Nat} (hm : m ≤ n) : Sl w B A m (xs.take m) :=
  ⟨by rw [List.length_take, h.1]; omega, fun i u hu => by
    refine h.2 i u ?_
    rw [List.getElem?_take] at hu
    split at hu
    · exact hu
    · cases hu⟩
theorem Sl.off {b o : Nat} (h : Sl w B (some ⟨b, o, none⟩) n xs) {k : Nat} : Sl w B (some ⟨b, o + k, none⟩) (n - k) (xs.drop k) :=
  ⟨by rw [List.length_drop, h.1], fun i u hu => by
    rw [List.getElem?_drop] at hu
    obtain ⟨b', o', e, hb, hc⟩ := h.2 _ u hu
    injection e with e
    injection e with e1 e2
    subst e1 e2
    exact ⟨b, o + k, rfl, hb, by rw [Nat.add_assoc]; exact hc⟩⟩
end

/-- Block g is just these cells, of element type t, none of them frozen. -/
def Own (w : World) (g : Nat) (t : TypeId) (cs : List Value) : Prop := w.heap[g]? = some (.cells cs.toArray t (0, 0))

section
variable {w w' : World} {g : Nat} {t : TypeId} {cs : List Value}
theorem Own.lt (h : Own w g t cs) : g < w.heap.size := by
  unfold Own at h
  rcases Nat.lt_or_ge g w.heap.size with hlt | hge
  · exact hlt
  · rw [Array.getElem?_eq_none hge] at h
    cases h
theorem Own.cell (h : Own w g t cs) (i : Nat) : w.cell? ⟨g, i, none⟩ = cs[i]? := by
  rw [cell_of_row w g i cs.toArray t (0, 0) h]
  simp
theorem Own.free (h : Own w g t cs) (i : Nat) : w.frozen? ⟨g, i, none⟩ = false := by
  unfold Own at h
  simp [World.frozen?, h]
theorem Own.made (w : World) (t : TypeId) (cs : List Value) : Own (w.alloc (.cells cs.toArray t)) w.heap.size t cs := heap_alloc_new w _
theorem Own.put (h : Own w g t cs) (i : Nat) (u : Value) : Own (w.setCell ⟨g, i, none⟩ u) g t (cs.set i u) := by
  unfold Own at h ⊢
  simp [World.setCell, Array.getElem?_modify, h]
theorem Own.below {B : Nat} (h : Own w g t cs) (hb : Below B w w') (hg : g < B) : Own w' g t cs := (hb.block g hg).trans h
theorem Own.sl (h : Own w g t cs) : Sl w w.heap.size (some ⟨g, 0, none⟩) cs.length cs :=
  ⟨rfl, fun i u hu => ⟨g, 0, rfl, h.lt, by rw [Nat.zero_add, h.cell i]; exact hu⟩⟩
end
theorem below_drewN {B : Nat} {a w : World} (h : Below B a w) (n : Nat) : Below B a (w.drewN n) := ⟨h.os, h.tape, h.output, h.size, h.block⟩
theorem Below.step {a b c : World} (h : Below a.heap.size a b) (k : Below b.heap.size b c) : Below a.heap.size a c := h.trans (k.mono h.size)

/-- Numbers of 32 bits as cells. -/
def U (xs : List Nat) : List Value := xs.map fun x : Nat => Value.int .u32 (x : Int)
theorem U_len (xs : List Nat) : (U xs).length = xs.length := by simp [U]
theorem U_at (xs : List Nat) (i : Nat) : (U xs)[i]? = (xs[i]?).map fun x : Nat => Value.int .u32 (x : Int) := by simp [U]
theorem U_take (xs : List Nat) (m : Nat) : (U xs).take m = U (xs.take m) := by simp [U, List.map_take]
theorem U_drop (xs : List Nat) (m : Nat) : (U xs).drop m = U (xs.drop m) := by simp [U, List.map_drop]
theorem U_set (xs : List Nat) (i x : Nat) : (U xs).set i (.int .u32 (x : Int)) = U (xs.set i x) := by simp [U, List.map_set]

/-- Every part is below 2^32. -/
def Dg (xs : List Nat) : Prop := ∀ x ∈ xs, x < 4294967296

/-- The slice at A reads as the parts xs. -/
def NR (w : World) (B : Nat) (A : Option Addr) (n : Nat) (xs : List Nat) : Prop := Sl w B A n (U xs) ∧ Dg xs

section
variable {w w' : World} {B B' n : Nat} {A : Option Addr} {xs : List Nat}
theorem NR.len (h : NR w B A n xs) : xs.length = n := by rw [← U_len, h.1.1]
theorem NR.look {k : Nat} (h : NR w B A n xs) (hk : k < n) : ∃ b off x, A = some ⟨b, off, none⟩ ∧ b < B ∧ Hid (xs.getD k 0 = x) ∧ x < 4294967296 ∧ w.cell? ⟨b, off + k, none⟩ = some (.int .u32 (x : Int)) := by
  obtain ⟨b, off, u, e, hb, hu, hc⟩ := h.1.look hk
  have hl : k < xs.length := by have := h.len; omega
  rw [U_at, List.getElem?_eq_getElem hl] at hu
  simp at hu
  subst hu
  refine ⟨b, off, xs[k], e, hb, ?_, h.2 _ (List.getElem_mem hl), hc⟩
  show _ = _
  rw [List.getD_eq_getElem?_getD, List.getElem?_eq_getElem hl]; rfl
theorem NR.more (h : NR w B A n xs) (hB : B ≤ B') : NR w B' A n xs := ⟨h.1.more hB, h.2⟩
theorem NR.below (h : NR w B A n xs) (hb : Below B w w') : NR w' B A n xs := ⟨h.1.below hb, h.2⟩
theorem NR.on (h : NR w w.heap.size A n xs) (hb : Below w.heap.size w w') : NR w' w'.heap.size A n xs := (h.below hb).more hb.size
theorem NR.take (h : NR w B A n xs) {m : Nat} (hm : m ≤ n) : NR w B A m (xs.take m) :=
  ⟨by rw [← U_take]; exact h.1.take hm, fun x hx => h.2 x (List.mem_of_mem_take hx)⟩
end
theorem Own.nr {w : World} {g : Nat} {xs : List Nat} {t : TypeId} (h : Own w g t (U xs)) (hd : Dg xs) : NR w w.heap.size (some ⟨g, 0, none⟩) xs.length xs :=
  ⟨by rw [← U_len]; exact h.sl, hd⟩
end Go.Proofs.YtkoacjnffbfgiaaDoor

namespace Go.Proofs.YtkoacjnffbfgiaaDoor
set_option linter.unusedVariables false

/-- The number of a list of parts, the lowest one first. -/
def val : List Nat → Nat
  | [] => 0
  | x :: xs => x + 4294967296 * val xs

abbrev pw (k : Nat) : Nat := 4294967296 ^ k
theorem pw_pos (k : Nat) : 0 < 4294967296 ^ k := Nat.pow_pos (by omega)
theorem pw_succ (k : Nat) : 4294967296 ^ (k + 1) = 4294967296 * 4294967296 ^ k := by rw [Nat.pow_succ, Nat.mul_comm]
theorem pw_two (k : Nat) : 4294967296 ^ k = 2 ^ (32 * k) := by
  rw [Nat.pow_mul]

theorem val_append : ∀ xs ys : List Nat, val (xs ++ ys) = val xs + 4294967296 ^ xs.length * val ys
  | [], ys => by simp [val]
  | x :: xs, ys => by
    simp only [List.cons_append, val, List.length_cons, val_append xs ys, pw_succ, Nat.mul_add, Nat.mul_assoc]
    omega
theorem val_one (x : Nat) : val [x] = x := by simp [val]
theorem val_replicate : ∀ n : Nat, val (List.replicate n 0) = 0
  | 0 => rfl
  | n + 1 => by simp [List.replicate_succ, val, val_replicate n]

theorem Dg.nil : Dg [] := fun x hx => by simp at hx
theorem Dg.cons {x : Nat} {xs : List Nat} (h : Dg (x :: xs)) : x < 4294967296 ∧ Dg xs := ⟨h x (by simp), fun y hy => h y (by simp [hy])⟩
theorem Dg.mk {x : Nat} {xs : List Nat} (h : x < 4294967296) (k : Dg xs) : Dg (x :: xs) := fun y hy => by
  rcases List.mem_cons.1 hy with rfl | hy
  · exact h
  · exact k y hy
theorem Dg.append {xs ys : List Nat} (h : Dg xs) (k : Dg ys) : Dg (xs ++ ys) := fun y hy => by
  rcases List.mem_append.1 hy with hy | hy
  · exact h y hy
  · exact k y hy
theorem Dg.take {xs : List Nat} (h : Dg xs) (m : Nat) : Dg (xs.take m) := fun x hx => h x (List.mem_of_mem_take hx)
theorem Dg.drop {xs : List Nat} (h : Dg xs) (m : Nat) : Dg (xs.drop m) := fun x hx => h x (List.mem_of_mem_drop hx)
theorem Dg.set {xs : List Nat} (h : Dg xs) (i : Nat) {x : Nat} (hx : x < 4294967296) : Dg (xs.set i x) := fun y hy => by
  rcases List.mem_or_eq_of_mem_set hy with hy | rfl
  · exact h y hy
  · exact hx
theorem Dg.replicate (n : Nat) : Dg (List.replicate n 0) := fun x hx => by
  rw [List.eq_of_mem_replicate hx]; omega
theorem Dg.getD {xs : List Nat} (h : Dg xs) (i : Nat) : xs.getD i 0 < 4294967296 := by
  rw [List.getD_eq_getElem?_getD]
  by_cases hi : i < xs.length
  · rw [List.getElem?_eq_getElem hi]; exact h _ (List.getElem_mem hi)
  · rw [List.getElem?_eq_none (by omega)]; simp

theorem val_lt : ∀ xs : List Nat, Dg xs → val xs < 4294967296 ^ xs.length
  | [], _ => by simp [val]
  | x :: xs, h => by
    have h1 := (Dg.cons h).1
    have h2 := val_lt xs (Dg.cons h).2
    simp only [val, List.length_cons, pw_succ]
    omega

/-- one part more. -/
theorem take_succ_val (xs : List Nat) (k : Nat) : val (xs.take (k + 1)) = val (xs.take k) + 4294967296 ^ k * xs.getD k 0 := by
  by_cases hk : k < xs.length
  · rw [List.take_succ_eq_append_getElem hk, val_append, val_one, List.length_take, Nat.min_eq_left (by omega)]
    congr 2
    rw [List.getD_eq_getElem?_getD, List.getElem?_eq_getElem hk]; rfl
  · rw [List.take_of_length_le (by omega), List.take_of_length_le (by omega), List.getD_eq_getElem?_getD, List.getElem?_eq_none (by omega)]
    simp
theorem set_take (ds : List Nat) (k d : Nat) (hk : k < ds.length) : (ds.set k d).take (k + 1) = ds.take k ++ [d] := by
  rw [List.take_succ_eq_append_getElem (by simpa using hk)]
  rw [List.take_set_of_le (by omega)]
  simp
theorem set_take_val (ds : List Nat) (k d : Nat) (hk : k < ds.length) : val ((ds.set k d).take (k + 1)) = val (ds.take k) + 4294967296 ^ k * d := by
  rw [set_take ds k d hk, val_append, val_one, List.length_take, Nat.min_eq_left (by omega)]
theorem val_split (xs : List Nat) (k : Nat) (hk : k ≤ xs.length) : val xs = val (xs.take k) + 4294967296 ^ k * val (xs.drop k) := by
  have h := val_append (xs.take k) (xs.drop k)
  rw [List.take_append_drop, List.length_take, Nat.min_eq_left hk] at h
  exact h
theorem val_take_lt {xs : List Nat} (h : Dg xs) (k : Nat) : val (xs.take k) < 4294967296 ^ k := by
  have h1 := val_lt (xs.take k) (h.take k)
  refine Nat.lt_of_lt_of_le h1 (Nat.pow_le_pow_right (by omega) ?_)
  rw [List.length_take]; omega
/-- a part, by its number. -/
theorem val_div (xs : List Nat) (h : Dg xs) (k : Nat) : val xs / 4294967296 ^ k = val (xs.drop k) := by
  by_cases hk : k ≤ xs.length
  · rw [val_split xs k hk, Nat.add_mul_div_left _ _ (pw_pos k), Nat.div_eq_of_lt (val_take_lt h k), Nat.zero_add]
  · rw [List.drop_of_length_le (by omega)]
    have h1 := val_lt xs h
    have h2 : 4294967296 ^ xs.length ≤ 4294967296 ^ k := Nat.pow_le_pow_right (by omega) (by omega)
    exact Nat.div_eq_of_lt (by omega)
theorem val_head (xs : List Nat) (h : Dg xs) : val xs % 4294967296 = xs.getD 0 0 := by
  cases xs with
  | nil => rfl
  | cons x xs =>
    have := (Dg.cons h).1
    simp only [val, List.getD_cons_zero]
    omega
theorem getD_drop (xs : List Nat) (k j : Nat) : (xs.drop k).getD j 0 = xs.getD (k + j) 0 := by
  rw [List.getD_eq_getElem?_getD, List.getD_eq_getElem?_getD, List.getElem?_drop]
theorem val_at (xs : List Nat) (h : Dg xs) (k : Nat) : val xs / 4294967296 ^ k % 4294967296 = xs.getD k 0 := by
  rw [val_div xs h k, val_head _ (h.drop k), getD_drop, Nat.add_zero]

theorem val_eq_zero : ∀ xs : List Nat, (∀ j, xs.getD j 0 = 0) → val xs = 0
  | [], _ => rfl
  | x :: xs, h => by
    have h0 : x = 0 := h 0
    have h1 := val_eq_zero xs (fun j => h (j + 1))
    simp [val, h0, h1]

/-- no part 0 at the end. -/
def Canon (xs : List Nat) : Prop := Dg xs ∧ (0 < xs.length → xs.getD (xs.length - 1) 0 ≠ 0)

/-- what cut tells: the first m parts; those behind are 0, and the last one kept is not. -/
def CutAt (xs : List Nat) (m : Nat) : Prop := (∀ j, m ≤ j → xs.getD j 0 = 0) ∧ (0 < m → xs.getD (m - 1) 0 ≠ 0)

theorem getD_take (xs : List Nat) (m j : Nat) (h : j < m) : (xs.take m).getD j 0 = xs.getD j 0 := by
  rw [List.getD_eq_getElem?_getD, List.getD_eq_getElem?_getD, List.getElem?_take, if_pos h]
theorem getD_ge {xs : List Nat} {n j : Nat} (h : xs.length = n) (hj : n ≤ j) : xs.getD j 0 = 0 := by
  rw [List.getD_eq_getElem?_getD, List.getElem?_eq_none (by omega)]; rfl

theorem cut_val {xs : List Nat} {m : Nat} (h : Dg xs) (hm : m ≤ xs.length) (hc : CutAt xs m) : Canon (xs.take m) ∧ val (xs.take m) = val xs := by
  have hl : (xs.take m).length = m := by rw [List.length_take]; omega
  refine ⟨⟨h.take m, fun h0 => ?_⟩, ?_⟩
  · rw [hl] at h0 ⊢
    rw [getD_take xs m _ (by omega)]
    exact hc.2 h0
  · have hz : val (xs.drop m) = 0 := val_eq_zero _ (fun j => by rw [getD_drop]; exact hc.1 _ (by omega))
    rw [val_split xs m hm, hz]
    omega

theorem Canon.low {xs : List Nat} (h : Canon xs) (h0 : 0 < xs.length) : 4294967296 ^ (xs.length - 1) ≤ val xs := by
  have h1 := val_split xs (xs.length - 1) (by omega)
  have h2 := val_at xs h.1 (xs.length - 1)
  have h3 := h.2 h0
  rw [val_div xs h.1] at h2
  have h4 : 1 ≤ val (xs.drop (xs.length - 1)) := by
    rcases Nat.eq_zero_or_pos (val (xs.drop (xs.length - 1))) with e | e
    · rw [e] at h2; simp at h2; exact absurd h2.symm h3
    · exact e
  have h5 : 4294967296 ^ (xs.length - 1) * 1 ≤ 4294967296 ^ (xs.length - 1) * val (xs.drop (xs.length - 1)) := Nat.mul_le_mul_left _ h4
  omega
theorem Canon.zero {xs : List Nat} (h : Canon xs) (h0 : val xs = 0) : xs = [] := by
  rcases Nat.eq_zero_or_pos xs.length with e | e
  · exact List.eq_nil_of_length_eq_zero e
  · have := h.low e
    have := pw_pos (xs.length - 1)
    omega
theorem Canon.nil : Canon [] := ⟨Dg.nil, fun h => by simp at h⟩
theorem Canon.tail {x : Nat} {xs : List Nat} (h : Canon (x :: xs)) : Canon xs :=
  ⟨(Dg.cons h.1).2, fun h0 => by
    have := h.2 (by simp)
    simp only [List.length_cons, Nat.add_sub_cancel] at this
    obtain ⟨n, hn⟩ : ∃ n, xs.length = n + 1 := ⟨xs.length - 1, by omega⟩
    rw [hn] at this ⊢
    simpa using this⟩
theorem canon_unique : ∀ xs ys : List Nat, Canon xs → Canon ys → val xs = val ys → xs = ys
  | [], ys, _, hy, he => (hy.zero (by simpa [val] using he.symm)).symm
  | x :: xs, [], hx, _, he => by
    have := hx.zero (by simpa [val] using he)
    cases this
  | x :: xs, y :: ys, hx, hy, he => by
    have h1 := (Dg.cons hx.1).1
    have h2 := (Dg.cons hy.1).1
    simp only [val] at he
    obtain rfl : x = y := by omega
    rw [canon_unique xs ys hx.tail hy.tail (by omega)]
/-- shorter is less. -/
theorem Canon.shorter {xs ys : List Nat} (hx : Dg xs) (hy : Canon ys) (h : xs.length < ys.length) : val xs < val ys := by
  have h1 := val_lt xs hx
  have h2 := hy.low (by omega)
  have h3 : 4294967296 ^ xs.length ≤ 4294967296 ^ (ys.length - 1) := Nat.pow_le_pow_right (by omega) (by omega)
  omega
theorem Canon.len_le {xs : List Nat} (h : Canon xs) {k : Nat} (hk : val xs < 4294967296 ^ k) : xs.length ≤ k := by
  rcases Nat.lt_or_ge k xs.length with hlt | hge
  · have h1 := h.low (by omega)
    have h2 : 4294967296 ^ k ≤ 4294967296 ^ (xs.length - 1) := Nat.pow_le_pow_right (by omega) (by omega)
    omega
  · exact hge
/-- the first parts from above that differ decide. -/
theorem top_less {xs ys : List Nat} (hx : Dg xs) (hy : Dg ys) (k : Nat) (he : val (xs.drop (k + 1)) = val (ys.drop (k + 1))) (hk : k < xs.length) (hk' : k < ys.length) (hlt : xs.getD k 0 < ys.getD k 0) : val xs < val ys := by
  rw [val_split xs (k + 1) (by omega), val_split ys (k + 1) (by omega), he, take_succ_val, take_succ_val]
  have h1 := val_take_lt hx k
  have h2 : 4294967296 ^ k * xs.getD k 0 + 4294967296 ^ k ≤ 4294967296 ^ k * ys.getD k 0 := by
    rw [← Nat.mul_succ]; exact Nat.mul_le_mul_left _ hlt
  omega

/-- how many bits a number has. -/
def blen (x : Nat) : Nat := if x = 0 then 0 else x.log2 + 1
theorem blen_le (x k : Nat) : blen x ≤ k ↔ x < 2 ^ k := by
  unfold blen
  split
  · rename_i h; subst h; simp [Nat.two_pow_pos]
  · rename_i h; rw [Nat.succ_le_iff, Nat.log2_lt h]
theorem blen_zero : blen 0 = 0 := rfl
theorem blen_pos {x : Nat} (h : x ≠ 0) : 2 ^ (blen x - 1) ≤ x ∧ 0 < blen x := by
  have h1 := blen_le x (blen x - 1)
  have h2 : 0 < blen x := by unfold blen; rw [if_neg h]; omega
  refine ⟨?_, h2⟩
  rcases Nat.lt_or_ge x (2 ^ (blen x - 1)) with h3 | h3
  · have := h1.2 h3; omega
  · exact h3
theorem blen_unique {x k : Nat} (h1 : 2 ^ k ≤ x) (h2 : x < 2 ^ (k + 1)) : blen x = k + 1 := by
  have a := (blen_le x (k + 1)).2 h2
  have b := blen_le x k
  rcases Nat.lt_or_ge k (blen x) with h | h
  · omega
  · have := b.1 h; omega
theorem bitLen_blen (x : Nat) (h : x < 18446744073709551616) : Lib.bitLen x = blen x := by
  have aux : ∀ f y : Nat, y < 2 ^ f → Lib.bitLenAux f y = blen y := by
    intro f
    induction f with
    | zero =>
      intro y hy
      obtain rfl : y = 0 := by simpa using hy
      rfl
    | succ f ih =>
      intro y hy
      simp only [Lib.bitLenAux]
      split
      · rename_i e; subst e; rfl
      · rename_i e
        rw [ih (y / 2) (by rw [Nat.pow_succ] at hy; omega)]
        have hy2 := blen_le (y / 2) (blen (y / 2))
        have a1 := hy2.1 (Nat.le_refl _)
        by_cases e2 : y / 2 = 0
        · have : y = 1 := by omega
          subst this
          decide
        · have b := blen_pos e2
          obtain ⟨m, hm⟩ : ∃ m, blen (y / 2) = m + 1 := ⟨blen (y / 2) - 1, by omega⟩
          rw [hm] at a1 b ⊢
          simp only [Nat.add_sub_cancel] at b
          rw [blen_unique (k := m + 1) (by rw [Nat.pow_succ]; omega) (by rw [Nat.pow_succ]; omega)]
          omega
  exact aux 64 x (by omega)
theorem blen_val {xs : List Nat} (h : Canon xs) (h0 : 0 < xs.length) : blen (val xs) = (xs.length - 1) * 32 + blen (xs.getD (xs.length - 1) 0) := by
  have hx := h.2 h0
  generalize hg : xs.getD (xs.length - 1) 0 = t at *
  have hs := take_succ_val xs (xs.length - 1)
  rw [show xs.length - 1 + 1 = xs.length from by omega, List.take_length, hg] at hs
  have hl := val_take_lt h.1 (xs.length - 1)
  generalize val (xs.take (xs.length - 1)) = lo at *
  generalize xs.length - 1 = k at *
  obtain ⟨b1, b2⟩ := blen_pos hx
  obtain ⟨m, hm⟩ : ∃ m, blen t = m + 1 := ⟨blen t - 1, by omega⟩
  have b3 := (blen_le t (m + 1)).1 (by omega)
  rw [hm] at b1 ⊢
  simp only [Nat.add_sub_cancel] at b1
  have e1 : (4294967296 : Nat) ^ k = 2 ^ (k * 32) := by rw [pw_two, Nat.mul_comm]
  rw [e1] at hs hl
  have g1 : 2 ^ (k * 32) * 2 ^ m ≤ 2 ^ (k * 32) * t := Nat.mul_le_mul_left _ b1
  have g2 : 2 ^ (k * 32) * (t + 1) ≤ 2 ^ (k * 32) * 2 ^ (m + 1) := Nat.mul_le_mul_left _ b3
  rw [← Nat.pow_add] at g1 g2
  rw [Nat.mul_add, Nat.mul_one] at g2
  rw [← Nat.add_assoc]
  refine blen_unique (by omega) ?_
  rw [Nat.add_assoc]
  omega

/-- how many bits 0 stand below the lowest 1. -/
def Ctz (x k : Nat) : Prop := x ≠ 0 ∧ ∃ m, x = 2 ^ k * (2 * m + 1)
theorem Ctz.unique {x k l : Nat} (h : Ctz x k) (h' : Ctz x l) : k = l := by
  have aux : ∀ {a b m n : Nat}, 2 ^ a * (2 * m + 1) = 2 ^ b * (2 * n + 1) → a < b → False := by
    intro a b m n e hl
    obtain ⟨d, rfl⟩ : ∃ d, b = a + (d + 1) := ⟨b - a - 1, by omega⟩
    rw [Nat.pow_add, Nat.mul_assoc] at e
    have := Nat.eq_of_mul_eq_mul_left (Nat.two_pow_pos a) e
    rw [Nat.pow_succ, Nat.mul_comm (2 ^ d), Nat.mul_assoc] at this
    omega
  obtain ⟨m, hm⟩ := h.2
  obtain ⟨n, hn⟩ := h'.2
  rcases Nat.lt_trichotomy k l with hl | hl | hl
  · exact (aux (hm.symm.trans hn) hl).elim
  · exact hl
  · exact (aux (hn.symm.trans hm) hl).elim
theorem Ctz.mod {x k : Nat} (h : Ctz x k) (n : Nat) : k < n ↔ x % 2 ^ n ≠ 0 := by
  obtain ⟨m, hm⟩ := h.2
  constructor
  · intro hk e
    obtain ⟨d, rfl⟩ : ∃ d, n = k + (d + 1) := ⟨n - k - 1, by omega⟩
    have hd : 2 ^ (k + (d + 1)) ∣ x := Nat.dvd_of_mod_eq_zero e
    rw [hm, Nat.pow_add] at hd
    have := Nat.dvd_of_mul_dvd_mul_left (Nat.two_pow_pos k) hd
    have h2 : 2 ∣ 2 ^ (d + 1) := by rw [Nat.pow_succ]; exact Nat.dvd_mul_left 2 (2 ^ d)
    have := Nat.dvd_trans h2 this
    omega
  · intro e
    rcases Nat.lt_or_ge k n with h1 | h1
    · exact h1
    · refine (e ?_).elim
      obtain ⟨d, rfl⟩ : ∃ d, k = n + d := ⟨k - n, by omega⟩
      rw [hm, Nat.pow_add, Nat.mul_assoc]
      exact Nat.mul_mod_right _ _
theorem ctz32 (x : Nat) (hx : x < 4294967296) (h0 : x ≠ 0) : Ctz x (Lib.ctz 32 x) := by
  obtain ⟨m, hm, _⟩ := Lib.ctzFrom_spec 32 x (by omega) hx
  refine ⟨h0, m, ?_⟩
  have e : Lib.ctz 32 x = Lib.ctzFrom 32 x := by simp [Lib.ctz, h0]
  rw [e]; exact hm
theorem ctz_val {xs : List Nat} (h : Dg xs) (k c : Nat) (hz : ∀ j, j < k → xs.getD j 0 = 0) (hk : Ctz (xs.getD k 0) c) (hc : c < 32) : Ctz (val xs) (k * 32 + c) := by
  have hkl : k < xs.length := by
    rcases Nat.lt_or_ge k xs.length with h1 | h1
    · exact h1
    · exact (hk.1 (getD_ge rfl h1)).elim
  have e0 : val (xs.take k) = 0 := val_eq_zero _ (fun j => by
    by_cases hj : j < k
    · rw [getD_take xs k j hj]; exact hz j hj
    · exact getD_ge rfl (by rw [List.length_take]; omega))
  have e1 := val_split xs (k + 1) (by omega)
  rw [take_succ_val, e0] at e1
  obtain ⟨m, hm⟩ := hk.2
  rw [hm, pw_succ] at e1
  have e2 : (4294967296 : Nat) ^ k = 2 ^ (k * 32) := by rw [pw_two, Nat.mul_comm]
  obtain ⟨d, hd⟩ : ∃ d, 32 = c + (d + 1) := ⟨32 - c - 1, by omega⟩
  have e3 : (4294967296 : Nat) = 2 ^ c * (2 ^ d * 2) := by rw [← Nat.pow_succ, ← Nat.pow_add, ← hd]
  have e4 : val xs = 2 ^ (k * 32 + c) * (2 * (m + 2 ^ d * val (xs.drop (k + 1))) + 1) := by
    rw [e1, e2, e3, Nat.pow_add]
    generalize val (xs.drop (k + 1)) = v
    generalize 2 ^ (k * 32) = a
    generalize 2 ^ c = b
    generalize 2 ^ d = g
    simp only [Nat.mul_add, Nat.mul_one, Nat.mul_assoc, Nat.zero_add, Nat.add_assoc]
    have x1 : b * (g * (2 * (a * v))) = a * (b * (2 * (g * v))) := by
      rw [show b * (g * (2 * (a * v))) = a * (b * (2 * (g * v))) by ac_rfl]
    omega
  refine ⟨?_, _, e4⟩
  rw [e4]
  have := Nat.two_pow_pos (k * 32 + c)
  exact Nat.mul_ne_zero (by omega) (by omega)
end Go.Proofs.YtkoacjnffbfgiaaDoor

namespace Go.Proofs.YtkoacjnffbfgiaaDoor
set_option linter.unusedVariables false

/-- a sum, as far as k parts. -/
structure AddInv (xs ys ds : List Nat) (n k cy : Nat) : Prop where
  len : ds.length = n + 1
  dg : Dg ds
  low : cy < 2
  sum : val (ds.take k) + 4294967296 ^ k * cy = val (xs.take k) + val (ys.take k)
theorem AddInv.zero (xs ys : List Nat) (n : Nat) : AddInv xs ys (List.replicate (n + 1) 0) n 0 0 :=
  ⟨by simp, Dg.replicate _, by omega, by simp [val]⟩
theorem AddInv.step {xs ys ds : List Nat} {n k cy x y s c' : Nat} (h : AddInv xs ys ds n k cy) (hk : k < n) (hx : xs.getD k 0 = x) (hy : ys.getD k 0 = y) (lx : x < 4294967296) (ly : y < 4294967296) (hs : s < 4294967296) (he : x + y + cy = s + 4294967296 * c') :
    AddInv xs ys (ds.set k s) n (k + 1) c' := by
  have hc := h.low
  refine ⟨by rw [List.length_set, h.len], h.dg.set k hs, by omega, ?_⟩
  rw [set_take_val ds k s (by rw [h.len]; omega), take_succ_val xs, take_succ_val ys, hx, hy, pw_succ]
  have h1 := h.sum
  have h2 : 4294967296 ^ k * (x + y + cy) = 4294967296 ^ k * (s + 4294967296 * c') := by rw [he]
  rw [Nat.mul_add, Nat.mul_add, Nat.mul_add, ← Nat.mul_assoc, Nat.mul_comm _ 4294967296] at h2
  omega
theorem AddInv.last {xs ys ds : List Nat} {n cy : Nat} (h : AddInv xs ys ds n n cy) (hx : xs.length = n) (hy : ys.length ≤ n) : val (ds.set n cy) = val xs + val ys ∧ Dg (ds.set n cy) := by
  have hc := h.low
  have h1 := set_take_val ds n cy (by rw [h.len]; omega)
  rw [List.take_of_length_le (by rw [List.length_set, h.len]; omega)] at h1
  have h2 := h.sum
  rw [List.take_of_length_le (l := xs) (by omega), List.take_of_length_le (l := ys) (by omega)] at h2
  exact ⟨by omega, h.dg.set n (by omega)⟩

/-- a difference, as far as k parts. -/
structure SubInv (xs ys ds : List Nat) (n k bw : Nat) : Prop where
  len : ds.length = n
  dg : Dg ds
  low : bw < 2
  sum : val (xs.take k) + 4294967296 ^ k * bw = val (ds.take k) + val (ys.take k)
theorem SubInv.zero (xs ys : List Nat) (n : Nat) : SubInv xs ys (List.replicate n 0) n 0 0 :=
  ⟨by simp, Dg.replicate _, by omega, by simp [val]⟩
theorem SubInv.step {xs ys ds : List Nat} {n k bw x y d b : Nat} (h : SubInv xs ys ds n k bw) (hk : k < n) (hx : xs.getD k 0 = x) (hy : ys.getD k 0 = y) (hd : d < 4294967296) (hb : b < 2) (he : x + 4294967296 * b = y + bw + d) :
    SubInv xs ys (ds.set k d) n (k + 1) b := by
  refine ⟨by rw [List.length_set, h.len], h.dg.set k hd, hb, ?_⟩
  rw [set_take_val ds k d (by rw [h.len]; omega), take_succ_val xs, take_succ_val ys, hx, hy, pw_succ]
  have h1 := h.sum
  have h2 : 4294967296 ^ k * (x + 4294967296 * b) = 4294967296 ^ k * (y + bw + d) := by rw [he]
  rw [Nat.mul_add, Nat.mul_add, Nat.mul_add, ← Nat.mul_assoc, Nat.mul_comm _ 4294967296] at h2
  omega
theorem SubInv.last {xs ys ds : List Nat} {n bw : Nat} (h : SubInv xs ys ds n n bw) (hx : xs.length = n) (hy : ys.length ≤ n) (hle : val ys ≤ val xs) : val ds + val ys = val xs := by
  have h1 := h.sum
  rw [List.take_of_length_le (l := xs) (by omega), List.take_of_length_le (l := ys) (by omega), List.take_of_length_le (l := ds) (by rw [h.len]; omega)] at h1
  have h2 := val_lt ds h.dg
  rw [h.len] at h2
  have hb := h.low
  rcases Nat.eq_zero_or_pos bw with e | e
  · rw [e] at h1; omega
  · have : bw = 1 := by omega
    rw [this] at h1; omega
end Go.Proofs.YtkoacjnffbfgiaaDoor

namespace Go.Proofs.YtkoacjnffbfgiaaDoor
set_option linter.unusedVariables false

theorem val_set (ds : List Nat) (j d : Nat) (hj : j < ds.length) : val (ds.set j d) + 4294967296 ^ j * ds.getD j 0 = val ds + 4294967296 ^ j * d := by
  have h1 := val_split (ds.set j d) (j + 1) (by rw [List.length_set]; omega)
  have h2 := val_split ds (j + 1) (by omega)
  rw [set_take_val ds j d hj, List.drop_set_of_lt (by omega)] at h1
  rw [take_succ_val] at h2
  omega
theorem getD_set_ne (ds : List Nat) (j i d : Nat) (h : i ≠ j) : (ds.set j d).getD i 0 = ds.getD i 0 := by
  rw [List.getD_eq_getElem?_getD, List.getD_eq_getElem?_getD, List.getElem?_set_ne (by omega)]

/-- one row, as far as k parts: ds is what was there, es what is there now. -/
structure RowInv (ds es ys : List Nat) (o t k cy : Nat) : Prop where
  len : es.length = ds.length
  dg : Dg es
  low : cy < 4294967296
  sum : val es + 4294967296 ^ (o + k) * cy = val ds + 4294967296 ^ o * (val (ys.take k) * t)
  far : ∀ j, o + k ≤ j → es.getD j 0 = ds.getD j 0
theorem RowInv.zero (ds ys : List Nat) (h : Dg ds) (o t : Nat) : RowInv ds ds ys o t 0 0 :=
  ⟨rfl, h, by omega, by simp [val], fun _ _ => rfl⟩
theorem RowInv.step {ds es ys : List Nat} {o t k cy y e d c' : Nat} (h : RowInv ds es ys o t k cy) (hk : o + k < ds.length) (hy : ys.getD k 0 = y) (he : es.getD (o + k) 0 = e) (hd : d < 4294967296) (hc' : c' < 4294967296)
    (hs : cy + (y * t + e) = d + 4294967296 * c') : RowInv ds (es.set (o + k) d) ys o t (k + 1) c' := by
  refine ⟨by rw [List.length_set, h.len], h.dg.set _ hd, hc', ?_, fun j hj => ?_⟩
  · have h1 := val_set es (o + k) d (by rw [h.len]; exact hk)
    have h2 := h.sum
    rw [he] at h1
    rw [take_succ_val, hy, show o + (k + 1) = o + k + 1 from by omega, pw_succ, Nat.add_mul, Nat.mul_add, ← Nat.add_assoc, ← h2]
    have h3 : 4294967296 ^ (o + k) * (cy + (y * t + e)) = 4294967296 ^ (o + k) * (d + 4294967296 * c') := by rw [hs]
    have h4 : 4294967296 ^ o * (4294967296 ^ k * y * t) = 4294967296 ^ (o + k) * (y * t) := by rw [Nat.pow_add]; ac_rfl
    have h5 : 4294967296 ^ (o + k) * (4294967296 * c') = 4294967296 * 4294967296 ^ (o + k) * c' := by ac_rfl
    rw [Nat.mul_add, Nat.mul_add, Nat.mul_add, h5] at h3
    rw [h4]
    omega
  · rw [getD_set_ne _ _ _ _ (by omega)]
    exact h.far j (by omega)

/-- the rows of the first i parts. -/
structure MulInv (xs ys ds : List Nat) (n i : Nat) : Prop where
  len : ds.length = n
  dg : Dg ds
  sum : val ds = val (xs.take i) * val ys
theorem MulInv.zero (xs ys : List Nat) (n : Nat) : MulInv xs ys (List.replicate n 0) n 0 :=
  ⟨by simp, Dg.replicate _, by simp [val, val_replicate]⟩
theorem MulInv.step {xs ys ds es : List Nat} {n i x cy m : Nat} (h : MulInv xs ys ds n i) (hx : xs.getD i 0 = x) (hxs : Dg xs) (hys : Dg ys) (hm : ys.length = m) (hl : i + m < n) (hr : RowInv ds es ys i x m cy) : MulInv xs ys (es.set (i + m) cy) n (i + 1) := by
  have h0 : es.getD (i + m) 0 = 0 := by
    rw [hr.far _ (Nat.le_refl _), ← val_at ds h.dg]
    have h1 := val_take_lt hxs i
    have h2 := val_lt ys hys
    rw [hm] at h2
    have h3 : val ds < 4294967296 ^ (i + m) := by
      rw [h.sum, Nat.pow_add]
      exact Nat.mul_lt_mul'' h1 h2
    rw [Nat.div_eq_of_lt h3]
  refine ⟨by rw [List.length_set, hr.len, h.len], hr.dg.set _ hr.low, ?_⟩
  have h1 := val_set es (i + m) cy (by rw [hr.len, h.len]; exact hl)
  have h2 := hr.sum
  rw [h0] at h1
  rw [List.take_of_length_le (by omega)] at h2
  have h3 := h.sum
  rw [take_succ_val, hx, Nat.add_mul]
  have h4 : 4294967296 ^ i * (val ys * x) = 4294967296 ^ i * x * val ys := by ac_rfl
  omega
end Go.Proofs.YtkoacjnffbfgiaaDoor

namespace Go.Proofs.YtkoacjnffbfgiaaDoor
set_option linter.unusedVariables false

/-- shifted to the left, as far as i parts. -/
structure LeftInv (xs ds : List Nat) (n q r i : Nat) : Prop where
  len : ds.length = n
  dg : Dg ds
  sum : val ds = 4294967296 ^ q * (2 ^ r * val (xs.take i))
theorem LeftInv.zero (xs : List Nat) (n q r : Nat) : LeftInv xs (List.replicate n 0) n q r 0 :=
  ⟨by simp, Dg.replicate _, by simp [val, val_replicate]⟩

theorem or_low (e x r : Nat) (hr : r < 32) (he : e < 2 ^ r) : e ||| (x * 2 ^ r % 4294967296) = e + x * 2 ^ r % 4294967296 ∧ e + x * 2 ^ r % 4294967296 < 4294967296 := by
  obtain ⟨d, hd⟩ : ∃ d, 32 = r + d := ⟨32 - r, by omega⟩
  have e3 : (4294967296 : Nat) = 2 ^ r * 2 ^ d := by rw [← Nat.pow_add, ← hd]
  have e4 : x * 2 ^ r % 4294967296 = 2 ^ r * (x % 2 ^ d) := by rw [e3, Nat.mul_comm x, Nat.mul_mod_mul_left]
  rw [e4]
  constructor
  · rw [Nat.or_comm, ← Nat.two_pow_add_eq_or_of_lt he, Nat.add_comm]
  · have h1 : x % 2 ^ d < 2 ^ d := Nat.mod_lt _ (Nat.two_pow_pos d)
    have h2 : 2 ^ r * (x % 2 ^ d + 1) ≤ 2 ^ r * 2 ^ d := Nat.mul_le_mul_left _ h1
    rw [Nat.mul_add, Nat.mul_one, ← e3] at h2
    omega

theorem LeftInv.old {xs ds : List Nat} {n q r i : Nat} (h : LeftInv xs ds n q r i) (hx : Dg xs) (hr : r < 32) : ds.getD (q + i) 0 < 2 ^ r ∧ ds.getD (q + i + 1) 0 = 0 := by
  have h1 := val_take_lt hx i
  have hp := Nat.two_pow_pos r
  have h2 : 2 ^ r * val (xs.take i) < 2 ^ r * 4294967296 ^ i := Nat.mul_lt_mul_of_pos_left h1 hp
  have h3 : 2 ^ r ≤ 4294967296 := by
    have : 2 ^ r ≤ 2 ^ 32 := Nat.pow_le_pow_right (by omega) (by omega)
    omega
  constructor
  · rw [← val_at ds h.dg, h.sum, Nat.pow_add, ← Nat.div_div_eq_div_mul, Nat.mul_div_cancel_left _ (pw_pos q)]
    have h4 : 2 ^ r * val (xs.take i) / 4294967296 ^ i < 2 ^ r := by
      rw [Nat.div_lt_iff_lt_mul (pw_pos i)]
      exact h2
    exact Nat.lt_of_le_of_lt (Nat.mod_le _ _) h4
  · rw [← val_at ds h.dg, h.sum]
    have h4 : 4294967296 ^ q * (2 ^ r * val (xs.take i)) < 4294967296 ^ (q + i + 1) := by
      rw [show q + i + 1 = q + (i + 1) from by omega, Nat.pow_add, pw_succ]
      refine Nat.mul_lt_mul_of_pos_left ?_ (pw_pos q)
      have : 2 ^ r * 4294967296 ^ i ≤ 4294967296 * 4294967296 ^ i := Nat.mul_le_mul_right _ h3
      omega
    rw [Nat.div_eq_of_lt h4]

theorem LeftInv.step {xs ds : List Nat} {n q r i x e : Nat} (h : LeftInv xs ds n q r i) (hx : Dg xs) (hr : r < 32) (hi : q + i + 1 < n) (hxi : xs.getD i 0 = x) (lx : x < 4294967296) (he : ds.getD (q + i) 0 = e) :
    LeftInv xs ((ds.set (q + i) (e + x * 2 ^ r % 4294967296)).set (q + i + 1) (x * 2 ^ r / 4294967296)) n q r (i + 1) := by
  obtain ⟨o1, o2⟩ := h.old hx hr
  rw [he] at o1
  obtain ⟨_, p2⟩ := or_low e x r hr o1
  have h3 : 2 ^ r ≤ 4294967296 := by
    have : 2 ^ r ≤ 2 ^ 32 := Nat.pow_le_pow_right (by omega) (by omega)
    omega
  have h4 : x * 2 ^ r / 4294967296 < 4294967296 := by
    rw [Nat.div_lt_iff_lt_mul (by omega)]
    have : x * 2 ^ r ≤ 4294967295 * 4294967296 := Nat.mul_le_mul (by omega) h3
    omega
  refine ⟨by rw [List.length_set, List.length_set, h.len], (h.dg.set _ p2).set _ h4, ?_⟩
  have v1 := val_set ds (q + i) (e + x * 2 ^ r % 4294967296) (by rw [h.len]; omega)
  have v2 := val_set (ds.set (q + i) (e + x * 2 ^ r % 4294967296)) (q + i + 1) (x * 2 ^ r / 4294967296) (by rw [List.length_set, h.len]; omega)
  rw [getD_set_ne _ _ _ _ (by omega), o2] at v2
  rw [he] at v1
  have h5 := h.sum
  rw [take_succ_val, hxi]
  have h6 : 4294967296 ^ q * (2 ^ r * (val (xs.take i) + 4294967296 ^ i * x)) = 4294967296 ^ q * (2 ^ r * val (xs.take i)) + 4294967296 ^ (q + i) * (x * 2 ^ r) := by
    rw [Nat.mul_add, Nat.mul_add, Nat.pow_add]
    congr 1
    ac_rfl
  rw [h6, ← h5]
  have h7 : 4294967296 ^ (q + i) * (x * 2 ^ r) = 4294967296 ^ (q + i) * (x * 2 ^ r % 4294967296) + 4294967296 ^ (q + i + 1) * (x * 2 ^ r / 4294967296) := by
    rw [pw_succ, Nat.mul_comm 4294967296, Nat.mul_assoc, ← Nat.mul_add]
    congr 1
    omega
  rw [Nat.mul_add] at v1
  omega

/-- shifted to the right: a part. -/
theorem right_at (xs : List Nat) (h : Dg xs) (q r i a b : Nat) (hr : r < 32) (ha : xs.getD (q + i) 0 = a) (hb : xs.getD (q + i + 1) 0 = b) :
    val xs / 2 ^ (32 * q + r) / 4294967296 ^ i % 4294967296 = (b * 4294967296 + a) / 2 ^ r % 4294967296 := by
  have e1 : val xs / 2 ^ (32 * q + r) / 4294967296 ^ i = val xs / 4294967296 ^ (q + i) / 2 ^ r := by
    rw [Nat.pow_add 2, ← pw_two, Nat.pow_add, Nat.div_div_eq_div_mul, Nat.div_div_eq_div_mul]
    congr 1
    ac_rfl
  have ha' := val_at xs h (q + i)
  have hb' := val_at xs h (q + i + 1)
  rw [pw_succ, Nat.mul_comm, ← Nat.div_div_eq_div_mul, hb] at hb'
  rw [ha] at ha'
  rw [e1]
  generalize val xs / 4294967296 ^ (q + i) = y at *
  obtain ⟨d, hd⟩ : ∃ d, 32 = r + d := ⟨32 - r, by omega⟩
  have e3 : (4294967296 : Nat) = 2 ^ r * 2 ^ d := by rw [← Nat.pow_add, ← hd]
  have e4 : y = y / 4294967296 / 4294967296 * (4294967296 * 4294967296) + (b * 4294967296 + a) := by omega
  rw [e4]
  generalize y / 4294967296 / 4294967296 = z
  have e5 : z * (4294967296 * 4294967296) = 2 ^ r * (z * 4294967296 * 2 ^ d) := by
    rw [show z * (4294967296 * 4294967296) = 4294967296 * (z * 4294967296) by ac_rfl]
    conv => lhs; lhs; rw [e3]
    ac_rfl
  rw [e5, Nat.mul_add_div (Nat.two_pow_pos r), show z * 4294967296 * 2 ^ d = z * 2 ^ d * 4294967296 by ac_rfl, Nat.mul_comm (z * 2 ^ d), Nat.mul_add_mod]

theorem val_build : ∀ (ds : List Nat) (x : Nat), (∀ i, i < ds.length → ds.getD i 0 = x / 4294967296 ^ i % 4294967296) → val ds = x % 4294967296 ^ ds.length
  | [], x, _ => by simp [val, Nat.mod_one]
  | d :: ds, x, h => by
    have h0 := h 0 (by simp)
    simp only [List.getD_cons_zero, Nat.pow_zero, Nat.div_one] at h0
    have h1 := val_build ds (x / 4294967296) (fun i hi => by
      have := h (i + 1) (by simpa using hi)
      rw [List.getD_cons_succ, pw_succ, ← Nat.div_div_eq_div_mul] at this
      exact this)
    simp only [val, List.length_cons, h0, h1]
    rw [pw_succ, Nat.mod_mul]

/-- shifted to the right, as far as i parts. -/
structure RightInv (ds : List Nat) (n y i : Nat) : Prop where
  len : ds.length = n
  dg : Dg ds
  at_ : ∀ j, j < i → ds.getD j 0 = y / 4294967296 ^ j % 4294967296
theorem RightInv.zero (n y : Nat) : RightInv (List.replicate n 0) n y 0 := ⟨by simp, Dg.replicate _, fun j hj => by omega⟩
theorem getD_set_self (ds : List Nat) (j d : Nat) (h : j < ds.length) : (ds.set j d).getD j 0 = d := by
  rw [List.getD_eq_getElem?_getD, List.getElem?_set_self (by omega)]; rfl
theorem RightInv.step {ds : List Nat} {n y i d : Nat} (h : RightInv ds n y i) (hi : i < n) (hd : y / 4294967296 ^ i % 4294967296 = d) : RightInv (ds.set i d) n y (i + 1) :=
  ⟨by rw [List.length_set, h.len], h.dg.set _ (by rw [← hd]; exact Nat.mod_lt _ (by omega)), fun j hj => by
    by_cases e : j = i
    · subst e
      rw [getD_set_self _ _ _ (by rw [h.len]; exact hi), hd]
    · rw [getD_set_ne _ _ _ _ e]
      exact h.at_ j (by omega)⟩
theorem RightInv.last {ds : List Nat} {n y : Nat} (h : RightInv ds n y n) (hy : y < 4294967296 ^ n) : val ds = y := by
  rw [val_build ds y (fun i hi => h.at_ i (by rw [← h.len]; exact hi)), h.len, Nat.mod_eq_of_lt hy]
theorem right_lt (xs : List Nat) (h : Dg xs) (q r : Nat) (hq : q ≤ xs.length) : val xs / 2 ^ (32 * q + r) < 4294967296 ^ (xs.length - q) := by
  have h1 := val_lt xs h
  rw [Nat.pow_add, ← pw_two, ← Nat.div_div_eq_div_mul]
  have h2 : val xs / 4294967296 ^ q < 4294967296 ^ (xs.length - q) := by
    rw [Nat.div_lt_iff_lt_mul (pw_pos q), ← Nat.pow_add, Nat.sub_add_cancel hq]
    exact h1
  exact Nat.lt_of_le_of_lt (Nat.div_le_self _ _) h2
theorem right_none (xs : List Nat) (h : Dg xs) (q r : Nat) (hq : xs.length ≤ q) : val xs / 2 ^ (32 * q + r) = 0 := by
  have h1 := val_lt xs h
  rw [Nat.pow_add, ← pw_two, ← Nat.div_div_eq_div_mul]
  have h2 : 4294967296 ^ xs.length ≤ 4294967296 ^ q := Nat.pow_le_pow_right (by omega) hq
  rw [Nat.div_eq_of_lt (show val xs < 4294967296 ^ q by omega), Nat.zero_div]
end Go.Proofs.YtkoacjnffbfgiaaDoor

namespace Go.Proofs.YtkoacjnffbfgiaaDoor
set_option linter.unusedVariables false

/-- The number of a list of bits, the lowest one first. -/
def bval : List Bool → Nat
  | [] => 0
  | b :: bs => b.toNat + 2 * bval bs

theorem bval_append : ∀ as bs : List Bool, bval (as ++ bs) = bval as + 2 ^ as.length * bval bs
  | [], bs => by simp [bval]
  | a :: as, bs => by
    simp only [List.cons_append, bval, List.length_cons, bval_append as bs, Nat.pow_succ, Nat.mul_add]
    have : 2 ^ as.length * 2 * bval bs = 2 * (2 ^ as.length * bval bs) := by ac_rfl
    omega
theorem bval_snoc (bs : List Bool) (b : Bool) : bval (bs ++ [b]) = bval bs + 2 ^ bs.length * b.toNat := by
  rw [bval_append]; simp [bval]
theorem toNat_le (b : Bool) : b.toNat ≤ 1 := by cases b <;> decide
theorem bval_lt : ∀ bs : List Bool, bval bs < 2 ^ bs.length
  | [] => by simp [bval]
  | b :: bs => by
    have h1 := toNat_le b
    have h2 := bval_lt bs
    simp only [bval, List.length_cons, Nat.pow_succ]
    omega
theorem bval_replicate : ∀ n : Nat, bval (List.replicate n false) = 0
  | 0 => rfl
  | n + 1 => by simp [List.replicate_succ, bval, bval_replicate n]
theorem bval_split (bs : List Bool) (k : Nat) (hk : k ≤ bs.length) : bval bs = bval (bs.take k) + 2 ^ k * bval (bs.drop k) := by
  have h := bval_append (bs.take k) (bs.drop k)
  rw [List.take_append_drop, List.length_take, Nat.min_eq_left hk] at h
  exact h
theorem bval_take_lt (bs : List Bool) (k : Nat) : bval (bs.take k) < 2 ^ k := by
  refine Nat.lt_of_lt_of_le (bval_lt _) (Nat.pow_le_pow_right (by omega) ?_)
  rw [List.length_take]; omega
theorem bval_div (bs : List Bool) (k : Nat) : bval bs / 2 ^ k = bval (bs.drop k) := by
  by_cases hk : k ≤ bs.length
  · rw [bval_split bs k hk, Nat.add_mul_div_left _ _ (Nat.two_pow_pos k), Nat.div_eq_of_lt (bval_take_lt bs k), Nat.zero_add]
  · rw [List.drop_of_length_le (by omega)]
    have h1 := bval_lt bs
    have h2 : 2 ^ bs.length ≤ 2 ^ k := Nat.pow_le_pow_right (by omega) (by omega)
    exact Nat.div_eq_of_lt (by omega)
theorem bval_mod (bs : List Bool) (k : Nat) : bval bs % 2 ^ k = bval (bs.take k) := by
  by_cases hk : k ≤ bs.length
  · rw [bval_split bs k hk, Nat.add_mul_mod_self_left, Nat.mod_eq_of_lt (bval_take_lt bs k)]
  · rw [List.take_of_length_le (by omega)]
    have h1 := bval_lt bs
    have h2 : 2 ^ bs.length ≤ 2 ^ k := Nat.pow_le_pow_right (by omega) (by omega)
    exact Nat.mod_eq_of_lt (by omega)
theorem bgetD_drop (bs : List Bool) (k j : Nat) : (bs.drop k).getD j false = bs.getD (k + j) false := by
  rw [List.getD_eq_getElem?_getD, List.getD_eq_getElem?_getD, List.getElem?_drop]
theorem bgetD_ge {bs : List Bool} {n j : Nat} (h : bs.length = n) (hj : n ≤ j) : bs.getD j false = false := by
  rw [List.getD_eq_getElem?_getD, List.getElem?_eq_none (by omega)]; rfl
theorem bval_head (bs : List Bool) : bval bs % 2 = (bs.getD 0 false).toNat := by
  cases bs with
  | nil => rfl
  | cons b bs =>
    have := toNat_le b
    simp only [bval, List.getD_cons_zero]
    omega
/-- a bit, by its number. -/
theorem bval_at (bs : List Bool) (k : Nat) : bval bs / 2 ^ k % 2 = (bs.getD k false).toNat := by
  rw [bval_div, bval_head, bgetD_drop, Nat.add_zero]
theorem bval_bit (bs : List Bool) (k : Nat) (b : Bool) (h : bs.getD k false = b) : bval bs / 2 ^ k % 2 = b.toNat := by rw [bval_at, h]

/-- no bit 0 at the end. -/
def BC (bs : List Bool) : Prop := bs.length = blen (bval bs)
theorem BC.nil : BC [] := rfl
theorem BC.of_low {bs : List Bool} (h : 0 < bs.length → 2 ^ (bs.length - 1) ≤ bval bs) : BC bs := by
  unfold BC
  rcases Nat.eq_zero_or_pos bs.length with e | e
  · rw [List.eq_nil_of_length_eq_zero e]; rfl
  · have h1 := h e
    have h2 := bval_lt bs
    obtain ⟨m, hm⟩ : ∃ m, bs.length = m + 1 := ⟨bs.length - 1, by omega⟩
    rw [hm] at h1 h2 ⊢
    exact (blen_unique h1 h2).symm
theorem BC.zero {bs : List Bool} (h : BC bs) (h0 : bval bs = 0) : bs = [] := by
  unfold BC at h
  rw [h0, blen_zero] at h
  exact List.eq_nil_of_length_eq_zero h

/-- what cut tells: the first m bits; those behind are 0, and the last one kept is 1. -/
def BCutAt (bs : List Bool) (m : Nat) : Prop := (∀ j, m ≤ j → bs.getD j false = false) ∧ (0 < m → bs.getD (m - 1) false = true)
theorem bval_eq_zero : ∀ bs : List Bool, (∀ j, bs.getD j false = false) → bval bs = 0
  | [], _ => rfl
  | b :: bs, h => by
    have h0 : b = false := h 0
    have h1 := bval_eq_zero bs (fun j => h (j + 1))
    simp [bval, h0, h1]
theorem bcut_val {bs : List Bool} {m : Nat} (hm : m ≤ bs.length) (hc : BCutAt bs m) : BC (bs.take m) ∧ bval (bs.take m) = bval bs := by
  have hz : bval (bs.drop m) = 0 := bval_eq_zero _ (fun j => by rw [bgetD_drop]; exact hc.1 _ (by omega))
  have hv : bval (bs.take m) = bval bs := by rw [bval_split bs m hm, hz]; omega
  have hl : (bs.take m).length = m := by rw [List.length_take]; omega
  refine ⟨BC.of_low (fun h0 => ?_), hv⟩
  rw [hl] at h0 ⊢
  rw [hv]
  have h1 := bval_at bs (m - 1)
  rw [hc.2 h0] at h1
  rcases Nat.lt_or_ge (bval bs) (2 ^ (m - 1)) with h2 | h2
  · rw [Nat.div_eq_of_lt h2] at h1; simp at h1
  · exact h2

/-- the bits of a number, one more. -/
theorem mod_succ (x k : Nat) : x % 2 ^ (k + 1) = x % 2 ^ k + 2 ^ k * (x / 2 ^ k % 2) := Nat.mod_pow_succ
theorem div_succ (x k : Nat) : x / 2 ^ (k + 1) = x / 2 ^ k / 2 := by rw [Nat.pow_succ, Nat.div_div_eq_div_mul]
theorem div_two (x k : Nat) : x / 2 ^ k = 2 * (x / 2 ^ (k + 1)) + x / 2 ^ k % 2 := by rw [div_succ]; omega
theorem decide_toNat (n : Nat) : (decide (n % 2 = 1)).toNat = n % 2 := by
  rcases Nat.mod_two_eq_zero_or_one n with h | h <;> simp [h]

/-- the bits of the parts: i parts, and k bits more. -/
structure OfInv (xs : List Nat) (bs : List Bool) (i k : Nat) (x : Nat) : Prop where
  len : bs.length = 32 * i + k
  sum : bval bs = val (xs.take i) + 4294967296 ^ i * (x % 2 ^ k)
theorem OfInv.zero (xs : List Nat) (i x : Nat) (bs : List Bool) (hl : bs.length = 32 * i) (hs : bval bs = val (xs.take i)) : OfInv xs bs i 0 x := ⟨by omega, by simp [hs, Nat.mod_one]⟩
theorem OfInv.step {xs : List Nat} {bs : List Bool} {i k x : Nat} (h : OfInv xs bs i k x) (b : Bool) (hb : b.toNat = x / 2 ^ k % 2) : OfInv xs (bs ++ [b]) i (k + 1) x := by
  refine ⟨by rw [List.length_append, h.len]; simp; omega, ?_⟩
  rw [bval_snoc, h.sum, h.len, hb, mod_succ, Nat.mul_add, Nat.pow_add, ← pw_two, Nat.add_assoc]
  congr 2
  ac_rfl
theorem OfInv.last {xs : List Nat} {bs : List Bool} {i x : Nat} (h : OfInv xs bs i 32 x) (hx : xs.getD i 0 = x) (hlt : x < 4294967296) : bs.length = 32 * (i + 1) ∧ bval bs = val (xs.take (i + 1)) := by
  refine ⟨by rw [h.len]; omega, ?_⟩
  rw [h.sum, take_succ_val, hx, Nat.mod_eq_of_lt (show x < 2 ^ 32 by omega)]

/-- one part out of bits, from above: k bits are left. -/
def Part (x i : Nat) : Nat := x / 2 ^ (32 * i) % 4294967296
theorem Part.lt (x i : Nat) : Part x i < 4294967296 := Nat.mod_lt _ (by omega)
theorem Part.bit (x i k : Nat) (hk : k < 32) : Part x i / 2 ^ k % 2 = x / 2 ^ (32 * i + k) % 2 := by
  unfold Part
  rw [Nat.pow_add, ← Nat.div_div_eq_div_mul]
  generalize x / 2 ^ (32 * i) = y
  obtain ⟨d, hd⟩ : ∃ d, 32 = k + (d + 1) := ⟨32 - k - 1, by omega⟩
  have e3 : (4294967296 : Nat) = 2 ^ k * (2 * 2 ^ d) := by rw [Nat.mul_comm 2, ← Nat.pow_succ, ← Nat.pow_add, ← hd]
  rw [e3, Nat.mod_mul_right_div_self, Nat.mod_mul_right_mod]
theorem Part.top (x i : Nat) : Part x i / 2 ^ 32 = 0 := Nat.div_eq_of_lt (by have := Part.lt x i; omega)
structure PartsInv (x : Nat) (ds : List Nat) (q : Nat) : Prop where
  len : ds.length = q
  dg : Dg ds
  sum : val ds = x % 2 ^ (32 * q)
theorem PartsInv.zero (x : Nat) : PartsInv x [] 0 := ⟨rfl, Dg.nil, by simp [val, Nat.mod_one]⟩
theorem PartsInv.step {x : Nat} {ds : List Nat} {q : Nat} (h : PartsInv x ds q) : PartsInv x (ds ++ [Part x q]) (q + 1) := by
  refine ⟨by rw [List.length_append, h.len]; rfl, h.dg.append (Dg.mk (Part.lt x q) Dg.nil), ?_⟩
  rw [val_append, val_one, h.sum, h.len, pw_two, show 32 * (q + 1) = 32 * q + 32 from by omega, Nat.pow_add, Nat.mod_mul]
  rfl
theorem PartsInv.last {x : Nat} {ds : List Nat} {q : Nat} (h : PartsInv x ds q) (hq : blen x ≤ 32 * q) (hq2 : 32 * q < blen x + 32) : Canon ds ∧ val ds = x := by
  have hx : x < 2 ^ (32 * q) := (blen_le x _).1 hq
  have hv : val ds = x := by rw [h.sum, Nat.mod_eq_of_lt hx]
  refine ⟨⟨h.dg, fun h0 => ?_⟩, hv⟩
  intro e0
  rw [h.len] at h0 e0
  have h1 := take_succ_val ds (q - 1)
  rw [show q - 1 + 1 = q from by omega, List.take_of_length_le (by rw [h.len]; exact Nat.le_refl _), e0, Nat.mul_zero, Nat.add_zero] at h1
  have h2 := val_take_lt h.dg (q - 1)
  rw [← h1, hv, pw_two] at h2
  have h3 := (blen_le x _).2 h2
  omega

/-- which is greater, from above: as far as k bits are left. -/
theorem cmp_bit {x y k : Nat} (he : x / 2 ^ (k + 1) = y / 2 ^ (k + 1)) (hx : x / 2 ^ k % 2 = 0) (hy : y / 2 ^ k % 2 = 1) : x < y := by
  have h1 := div_two x k
  have h2 := div_two y k
  rcases Nat.lt_or_ge x y with h | h
  · exact h
  · have := Nat.div_le_div_right (c := 2 ^ k) h
    omega

/-- a sum, bit by bit, as far as k bits. -/
structure BAddInv (x y : Nat) (bs : List Bool) (k : Nat) (c : Bool) : Prop where
  len : bs.length = k
  sum : bval bs + 2 ^ k * c.toNat = x % 2 ^ k + y % 2 ^ k
theorem BAddInv.zero (x y : Nat) : BAddInv x y [] 0 false := ⟨rfl, by simp [bval, Nat.mod_one]⟩
theorem BAddInv.step {x y : Nat} {bs : List Bool} {k : Nat} {c : Bool} (h : BAddInv x y bs k c) (a b : Bool) (ha : x / 2 ^ k % 2 = a.toNat) (hb : y / 2 ^ k % 2 = b.toNat) :
    BAddInv x y (bs ++ [(a != b) != c]) (k + 1) (a && b || c && (a || b)) := by
  refine ⟨by rw [List.length_append, h.len]; rfl, ?_⟩
  rw [bval_snoc, h.len, mod_succ, mod_succ, ha, hb, Nat.pow_succ]
  have h1 := h.sum
  generalize 2 ^ k = p at *
  revert h1
  cases a <;> cases b <;> cases c <;> simp <;> omega
theorem BAddInv.last {x y : Nat} {bs : List Bool} {m : Nat} {c : Bool} (h : BAddInv x y bs (m + 1) c) (hx : blen x ≤ m) (hy : blen y ≤ m) : bval bs = x + y := by
  have h1 := (blen_le x m).1 hx
  have h2 := (blen_le y m).1 hy
  have h3 := h.sum
  rw [Nat.pow_succ, Nat.mod_eq_of_lt (show x < 2 ^ m * 2 by omega), Nat.mod_eq_of_lt (show y < 2 ^ m * 2 by omega)] at h3
  cases c
  · simpa using h3
  · simp at h3; omega

/-- a difference, bit by bit. -/
structure BSubInv (x y : Nat) (bs : List Bool) (k : Nat) (c : Bool) : Prop where
  len : bs.length = k
  sum : x % 2 ^ k + 2 ^ k * c.toNat = bval bs + y % 2 ^ k
theorem BSubInv.zero (x y : Nat) : BSubInv x y [] 0 false := ⟨rfl, by simp [bval, Nat.mod_one]⟩
theorem BSubInv.step {x y : Nat} {bs : List Bool} {k : Nat} {c : Bool} (h : BSubInv x y bs k c) (a b : Bool) (ha : x / 2 ^ k % 2 = a.toNat) (hb : y / 2 ^ k % 2 = b.toNat) :
    BSubInv x y (bs ++ [(a != b) != c]) (k + 1) (!a && (b || c) || b && c) := by
  refine ⟨by rw [List.length_append, h.len]; rfl, ?_⟩
  rw [bval_snoc, h.len, mod_succ, mod_succ, ha, hb, Nat.pow_succ]
  have h1 := h.sum
  generalize 2 ^ k = p at *
  revert h1
  cases a <;> cases b <;> cases c <;> simp <;> omega
theorem BSubInv.last {x y : Nat} {bs : List Bool} {m : Nat} {c : Bool} (h : BSubInv x y bs m c) (hx : blen x ≤ m) (hle : y ≤ x) : bval bs = x - y := by
  have h1 := (blen_le x m).1 hx
  have h3 := h.sum
  have h4 := bval_lt bs
  rw [h.len] at h4
  rw [Nat.mod_eq_of_lt h1, Nat.mod_eq_of_lt (show y < 2 ^ m by omega)] at h3
  cases c
  · simp at h3; omega
  · simp at h3; omega

/-- a product, bit by bit. -/
theorem bmul_step (x y k : Nat) (b : Bool) (hb : y / 2 ^ k % 2 = b.toNat) (z : Nat) (hz : z = x * (y % 2 ^ k)) : (if b then z + x * 2 ^ k else z) = x * (y % 2 ^ (k + 1)) := by
  rw [mod_succ, hb, hz, Nat.mul_add]
  cases b <;> simp

theorem BC.left {bs : List Bool} (h : BC bs) (h0 : bs ≠ []) (n : Nat) : BC (List.replicate n false ++ bs) ∧ bval (List.replicate n false ++ bs) = bval bs * 2 ^ n := by
  have hv : bval (List.replicate n false ++ bs) = bval bs * 2 ^ n := by rw [bval_append, bval_replicate, List.length_replicate]; rw [Nat.mul_comm]; omega
  refine ⟨BC.of_low (fun _ => ?_), hv⟩
  have hl : 0 < bs.length := List.length_pos_iff.2 h0
  have hx : bval bs ≠ 0 := fun e => h0 (h.zero e)
  have h1 := (blen_pos hx).1
  rw [← h] at h1
  rw [hv, List.length_append, List.length_replicate, show n + bs.length - 1 = (bs.length - 1) + n from by omega, Nat.pow_add]
  exact Nat.mul_le_mul_right _ h1
theorem blen_div (x k : Nat) : blen (x / 2 ^ k) = blen x - k := by
  by_cases h : x / 2 ^ k = 0
  · have h1 : x < 2 ^ k := by
      rcases Nat.lt_or_ge x (2 ^ k) with h1 | h1
      · exact h1
      · have := Nat.div_pos h1 (Nat.two_pow_pos k); omega
    have := (blen_le x k).2 h1
    rw [h, blen_zero]; omega
  · obtain ⟨h1, h2⟩ := blen_pos h
    have h3 := (blen_le (x / 2 ^ k) (blen (x / 2 ^ k))).1 (Nat.le_refl _)
    obtain ⟨m, hm⟩ : ∃ m, blen (x / 2 ^ k) = m + 1 := ⟨blen (x / 2 ^ k) - 1, by omega⟩
    rw [hm] at h1 h3 ⊢
    simp only [Nat.add_sub_cancel] at h1
    rw [Nat.le_div_iff_mul_le (Nat.two_pow_pos k), ← Nat.pow_add] at h1
    rw [Nat.div_lt_iff_lt_mul (Nat.two_pow_pos k), ← Nat.pow_add, show m + 1 + k = m + k + 1 from by omega] at h3
    rw [blen_unique h1 h3]; omega
theorem BC.drop {bs : List Bool} (h : BC bs) (n : Nat) : BC (bs.drop n) ∧ bval (bs.drop n) = bval bs / 2 ^ n := by
  have hv := (bval_div bs n).symm
  refine ⟨?_, hv⟩
  unfold BC at h ⊢
  rw [List.length_drop, hv, blen_div, h]
end Go.Proofs.YtkoacjnffbfgiaaDoor
