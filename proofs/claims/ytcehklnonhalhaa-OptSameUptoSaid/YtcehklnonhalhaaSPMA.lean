/-
  What the proofs of OptSame need: MA.
-/
import Derived.WalkKit
import Derived.ProofKit
import Derived.Below
import Derived.Lib.Hide
import Derived.Deep.Draws
import Derived.Laws.Rows
import Derived.Lib.BitFns
import Derived.Lib.TrailingZeros
set_option linter.unusedVariables false
namespace Go.Proofs.Ytcehklnonhalhaa
open Go.RowKit
def Sl (w : World) (B : Nat) (A : Option Addr) (n : Nat) (xs : List Value) : Prop :=
 xs.length = n ∧ ∀ i u, xs[i]? = some u → ∃ b off, A = some ⟨b, off, none⟩ ∧ b < B ∧ w.cell? ⟨b, off + i, none⟩ = some u
section
variable {w w' : World} {B B' n : Nat} {A : Option Addr} {xs : List Value}
theorem Sl.nil_ : Sl w B A 0 [] := ⟨rfl, fun i u hu => by simp at hu⟩
theorem Sl.look {k : Nat} (h : Sl w B A n xs) (hk : k < n) : ∃ b off u, A = some ⟨b, off, none⟩ ∧ b < B ∧ xs[k]? = some u ∧ w.cell? ⟨b, off + k, none⟩ = some u := by
 have hl : k < xs.length := by have := h.1; omega
 obtain ⟨b, off, e, hb, hc⟩ := h.2 k xs[k] (List.getElem?_eq_getElem hl)
 exact ⟨b, off, xs[k], e, hb, List.getElem?_eq_getElem hl, hc⟩
theorem Sl.keep (h : Sl w B A n xs) (hk : ∀ p : Addr, p.block < B → w'.cell? p = w.cell? p) : Sl w' B A n xs :=
 ⟨h.1, fun i u hu => by
  obtain ⟨b, off, e, hb, hc⟩ := h.2 i u hu
  exact ⟨b, off, e, hb, (hk _ hb).trans hc⟩⟩
theorem Sl.more (h : Sl w B A n xs) (hB : B ≤ B') : Sl w B' A n xs :=
 ⟨h.1, fun i u hu => by
  obtain ⟨b, off, e, hb, hc⟩ := h.2 i u hu
  exact ⟨b, off, e, by omega, hc⟩⟩
theorem Sl.below (h : Sl w B A n xs) (hb : Below B w w') : Sl w' B A n xs := h.keep fun _ hp => hb.cell hp
theorem Sl.take (h : Sl w B A n xs) {m : Nat} (hm : m ≤ n) : Sl w B A m (xs.take m) :=
 ⟨by rw [List.length_take, h.1]; omega, fun i u hu => by
  refine h.2 i u ?_
  rw [List.getElem?_take] at hu
  split at hu
  ·exact hu
  ·cases hu⟩
end
def Own (w : World) (g : Nat) (t : TypeId) (cs : List Value) : Prop := w.heap[g]? = some (.cells cs.toArray t (0, 0))
section
variable {w w' : World} {g : Nat} {t : TypeId} {cs : List Value}
theorem Own.lt (h : Own w g t cs) : g < w.heap.size := by
 unfold Own at h
 rcases Nat.lt_or_ge g w.heap.size with hlt | hge
 ·exact hlt
 ·rw [Array.getElem?_eq_none hge] at h
  cases h
theorem Own.cell (h : Own w g t cs) (i : Nat) : w.cell? ⟨g, i, none⟩ = cs[i]? := by
 rw [cell_of_row w g i cs.toArray t (0, 0) h]
 simp
theorem Own.free (h : Own w g t cs) (i : Nat) : w.frozen? ⟨g, i, none⟩ = false := by
 unfold Own at h
 simp [World.frozen?, h]
theorem Own.made (w : World) (t : TypeId) (cs : List Value) : Own (w.alloc (.cells cs.toArray t)) w.heap.size t cs := heap_alloc_new w _
theorem Own.put (h : Own w g t cs) (i : Nat) (u : Value) : Own (w.setCell ⟨g, i, none⟩ u) g t (cs.set i u) := by
 unfold Own at h ⊢
 simp [World.setCell, Array.getElem?_modify, h]
theorem Own.below {B : Nat} (h : Own w g t cs) (hb : Below B w w') (hg : g < B) : Own w' g t cs := (hb.block g hg).trans h
end
theorem below_drewN {B : Nat} {a w : World} (h : Below B a w) (n : Nat) : Below B a (w.drewN n) := ⟨h.os, h.tape, h.output, h.size, h.block⟩
theorem Below.step {a b c : World} (h : Below a.heap.size a b) (k : Below b.heap.size b c) : Below a.heap.size a c := h.trans (k.mono h.size)
def U (xs : List Nat) : List Value := xs.map fun x : Nat => Value.int .u32 (x : Int)
theorem U_len (xs : List Nat) : (U xs).length = xs.length := by simp [U]
theorem U_at (xs : List Nat) (i : Nat) : (U xs)[i]? = (xs[i]?).map fun x : Nat => Value.int .u32 (x : Int) := by simp [U]
def Dg (xs : List Nat) : Prop := ∀ x ∈ xs, x < 4294967296
def NR (w : World) (B : Nat) (A : Option Addr) (n : Nat) (xs : List Nat) : Prop := Sl w B A n (U xs) ∧ Dg xs
section
variable {w w' : World} {B B' n : Nat} {A : Option Addr} {xs : List Nat}
theorem NR.len (h : NR w B A n xs) : xs.length = n := by rw [← U_len, h.1.1]
theorem NR.look {k : Nat} (h : NR w B A n xs) (hk : k < n) : ∃ b off x, A = some ⟨b, off, none⟩ ∧ b < B ∧ Hid (xs.getD k 0 = x) ∧ x < 4294967296 ∧ w.cell? ⟨b, off + k, none⟩ = some (.int .u32 (x : Int)) := by
 obtain ⟨b, off, u, e, hb, hu, hc⟩ := h.1.look hk
 have hl : k < xs.length := by have := h.len; omega
 rw [U_at, List.getElem?_eq_getElem hl] at hu
 simp at hu
 subst hu
 refine ⟨b, off, xs[k], e, hb, ?_, h.2 _ (List.getElem_mem hl), hc⟩
 show _ = _
 rw [List.getD_eq_getElem?_getD, List.getElem?_eq_getElem hl]; rfl
theorem NR.more (h : NR w B A n xs) (hB : B ≤ B') : NR w B' A n xs := ⟨h.1.more hB, h.2⟩
theorem NR.below (h : NR w B A n xs) (hb : Below B w w') : NR w' B A n xs := ⟨h.1.below hb, h.2⟩
theorem NR.on (h : NR w w.heap.size A n xs) (hb : Below w.heap.size w w') : NR w' w'.heap.size A n xs := (h.below hb).more hb.size
end
end Go.Proofs.Ytcehklnonhalhaa
namespace Go.Proofs.Ytcehklnonhalhaa
def val : List Nat → Nat
 | [] => 0
 | x :: xs => x + 4294967296 * val xs
theorem pw_pos (k : Nat) : 0 < 4294967296 ^ k := Nat.pow_pos (by omega)
theorem pw_succ (k : Nat) : 4294967296 ^ (k + 1) = 4294967296 * 4294967296 ^ k := by rw [Nat.pow_succ, Nat.mul_comm]
theorem pw_two (k : Nat) : 4294967296 ^ k = 2 ^ (32 * k) := by
 rw [Nat.pow_mul]
theorem val_append : ∀ xs ys : List Nat, val (xs ++ ys) = val xs + 4294967296 ^ xs.length * val ys
 | [], ys => by simp [val]
 | x :: xs, ys => by
  simp only [List.cons_append, val, List.length_cons, val_append xs ys, pw_succ, Nat.mul_add, Nat.mul_assoc]
  omega
theorem val_one (x : Nat) : val [x] = x := by simp [val]
theorem Dg.nil : Dg [] := fun x hx => by simp at hx
theorem Dg.cons {x : Nat} {xs : List Nat} (h : Dg (x :: xs)) : x < 4294967296 ∧ Dg xs := ⟨h x (by simp), fun y hy => h y (by simp [hy])⟩
theorem Dg.mk {x : Nat} {xs : List Nat} (h : x < 4294967296) (k : Dg xs) : Dg (x :: xs) := fun y hy => by
 rcases List.mem_cons.1 hy with rfl | hy
 ·exact h
 ·exact k y hy
theorem Dg.append {xs ys : List Nat} (h : Dg xs) (k : Dg ys) : Dg (xs ++ ys) := fun y hy => by
 rcases List.mem_append.1 hy with hy | hy
 ·exact h y hy
 ·exact k y hy
theorem Dg.take {xs : List Nat} (h : Dg xs) (m : Nat) : Dg (xs.take m) := fun x hx => h x (List.mem_of_mem_take hx)
theorem Dg.drop {xs : List Nat} (h : Dg xs) (m : Nat) : Dg (xs.drop m) := fun x hx => h x (List.mem_of_mem_drop hx)
theorem val_lt : ∀ xs : List Nat, Dg xs → val xs < 4294967296 ^ xs.length
 | [], _ => by simp [val]
 | x :: xs, h => by
  have h1 := (Dg.cons h).1
  have h2 := val_lt xs (Dg.cons h).2
  simp only [val, List.length_cons, pw_succ]
  omega
theorem take_succ_val (xs : List Nat) (k : Nat) : val (xs.take (k + 1)) = val (xs.take k) + 4294967296 ^ k * xs.getD k 0 := by
 by_cases hk : k < xs.length
 ·rw [List.take_succ_eq_append_getElem hk, val_append, val_one, List.length_take, Nat.min_eq_left (by omega)]
  congr 2
  rw [List.getD_eq_getElem?_getD, List.getElem?_eq_getElem hk]; rfl
 ·rw [List.take_of_length_le (by omega), List.take_of_length_le (by omega), List.getD_eq_getElem?_getD, List.getElem?_eq_none (by omega)]
  simp
theorem val_split (xs : List Nat) (k : Nat) (hk : k ≤ xs.length) : val xs = val (xs.take k) + 4294967296 ^ k * val (xs.drop k) := by
 have h := val_append (xs.take k) (xs.drop k)
 rw [List.take_append_drop, List.length_take, Nat.min_eq_left hk] at h
 exact h
theorem val_take_lt {xs : List Nat} (h : Dg xs) (k : Nat) : val (xs.take k) < 4294967296 ^ k := by
 have h1 := val_lt (xs.take k) (h.take k)
 refine Nat.lt_of_lt_of_le h1 (Nat.pow_le_pow_right (by omega) ?_)
 rw [List.length_take]; omega
theorem val_div (xs : List Nat) (h : Dg xs) (k : Nat) : val xs / 4294967296 ^ k = val (xs.drop k) := by
 by_cases hk : k ≤ xs.length
 ·rw [val_split xs k hk, Nat.add_mul_div_left _ _ (pw_pos k), Nat.div_eq_of_lt (val_take_lt h k), Nat.zero_add]
 ·rw [List.drop_of_length_le (by omega)]
  have h1 := val_lt xs h
  have h2 : 4294967296 ^ xs.length ≤ 4294967296 ^ k := Nat.pow_le_pow_right (by omega) (by omega)
  exact Nat.div_eq_of_lt (by omega)
theorem val_head (xs : List Nat) (h : Dg xs) : val xs % 4294967296 = xs.getD 0 0 := by
 cases xs with
 | nil => rfl
 | cons x xs =>
  have := (Dg.cons h).1
  simp only [val, List.getD_cons_zero]
  omega
theorem getD_drop (xs : List Nat) (k j : Nat) : (xs.drop k).getD j 0 = xs.getD (k + j) 0 := by
 rw [List.getD_eq_getElem?_getD, List.getD_eq_getElem?_getD, List.getElem?_drop]
theorem val_at (xs : List Nat) (h : Dg xs) (k : Nat) : val xs / 4294967296 ^ k % 4294967296 = xs.getD k 0 := by
 rw [val_div xs h k, val_head _ (h.drop k), getD_drop, Nat.add_zero]
def Canon (xs : List Nat) : Prop := Dg xs ∧ (0 < xs.length → xs.getD (xs.length - 1) 0 ≠ 0)
theorem Canon.low {xs : List Nat} (h : Canon xs) (h0 : 0 < xs.length) : 4294967296 ^ (xs.length - 1) ≤ val xs := by
 have h1 := val_split xs (xs.length - 1) (by omega)
 have h2 := val_at xs h.1 (xs.length - 1)
 have h3 := h.2 h0
 rw [val_div xs h.1] at h2
 have h4 : 1 ≤ val (xs.drop (xs.length - 1)) := by
  rcases Nat.eq_zero_or_pos (val (xs.drop (xs.length - 1))) with e | e
  ·rw [e] at h2; simp at h2; exact absurd h2.symm h3
  ·exact e
 have h5 : 4294967296 ^ (xs.length - 1) * 1 ≤ 4294967296 ^ (xs.length - 1) * val (xs.drop (xs.length - 1)) := Nat.mul_le_mul_left _ h4
 omega
theorem Canon.zero {xs : List Nat} (h : Canon xs) (h0 : val xs = 0) : xs = [] := by
 rcases Nat.eq_zero_or_pos xs.length with e | e
 ·exact List.eq_nil_of_length_eq_zero e
 ·have := h.low e
  have := pw_pos (xs.length - 1)
  omega
theorem Canon.nil : Canon [] := ⟨Dg.nil, fun h => by simp at h⟩
theorem Canon.tail {x : Nat} {xs : List Nat} (h : Canon (x :: xs)) : Canon xs :=
 ⟨(Dg.cons h.1).2, fun h0 => by
  have := h.2 (by simp)
  simp only [List.length_cons, Nat.add_sub_cancel] at this
  obtain ⟨n, hn⟩ : ∃ n, xs.length = n + 1 := ⟨xs.length - 1, by omega⟩
  rw [hn] at this ⊢
  simpa using this⟩
theorem canon_unique : ∀ xs ys : List Nat, Canon xs → Canon ys → val xs = val ys → xs = ys
 | [], ys, _, hy, he => (hy.zero (by simpa [val] using he.symm)).symm
 | x :: xs, [], hx, _, he => by
  have := hx.zero (by simpa [val] using he)
  cases this
 | x :: xs, y :: ys, hx, hy, he => by
  have h1 := (Dg.cons hx.1).1
  have h2 := (Dg.cons hy.1).1
  simp only [val] at he
  obtain rfl : x = y := by omega
  rw [canon_unique xs ys hx.tail hy.tail (by omega)]
def blen (x : Nat) : Nat := if x = 0 then 0 else x.log2 + 1
theorem blen_le (x k : Nat) : blen x ≤ k ↔ x < 2 ^ k := by
 unfold blen
 split
 ·rename_i h; subst h; simp [Nat.two_pow_pos]
 ·rename_i h; rw [Nat.succ_le_iff, Nat.log2_lt h]
theorem blen_unique {x k : Nat} (h1 : 2 ^ k ≤ x) (h2 : x < 2 ^ (k + 1)) : blen x = k + 1 := by
 have a := (blen_le x (k + 1)).2 h2
 have b := blen_le x k
 rcases Nat.lt_or_ge k (blen x) with h | h
 ·omega
 ·have := b.1 h; omega
def bval : List Bool → Nat
 | [] => 0
 | b :: bs => b.toNat + 2 * bval bs
theorem bval_append : ∀ as bs : List Bool, bval (as ++ bs) = bval as + 2 ^ as.length * bval bs
 | [], bs => by simp [bval]
 | a :: as, bs => by
  simp only [List.cons_append, bval, List.length_cons, bval_append as bs, Nat.pow_succ, Nat.mul_add]
  have : 2 ^ as.length * 2 * bval bs = 2 * (2 ^ as.length * bval bs) := by ac_rfl
  omega
theorem bval_snoc (bs : List Bool) (b : Bool) : bval (bs ++ [b]) = bval bs + 2 ^ bs.length * b.toNat := by
 rw [bval_append]; simp [bval]
theorem toNat_le (b : Bool) : b.toNat ≤ 1 := by cases b <;> decide
theorem bval_lt : ∀ bs : List Bool, bval bs < 2 ^ bs.length
 | [] => by simp [bval]
 | b :: bs => by
  have h1 := toNat_le b
  have h2 := bval_lt bs
  simp only [bval, List.length_cons, Nat.pow_succ]
  omega
theorem bval_split (bs : List Bool) (k : Nat) (hk : k ≤ bs.length) : bval bs = bval (bs.take k) + 2 ^ k * bval (bs.drop k) := by
 have h := bval_append (bs.take k) (bs.drop k)
 rw [List.take_append_drop, List.length_take, Nat.min_eq_left hk] at h
 exact h
theorem bval_take_lt (bs : List Bool) (k : Nat) : bval (bs.take k) < 2 ^ k := by
 refine Nat.lt_of_lt_of_le (bval_lt _) (Nat.pow_le_pow_right (by omega) ?_)
 rw [List.length_take]; omega
theorem bval_div (bs : List Bool) (k : Nat) : bval bs / 2 ^ k = bval (bs.drop k) := by
 by_cases hk : k ≤ bs.length
 ·rw [bval_split bs k hk, Nat.add_mul_div_left _ _ (Nat.two_pow_pos k), Nat.div_eq_of_lt (bval_take_lt bs k), Nat.zero_add]
 ·rw [List.drop_of_length_le (by omega)]
  have h1 := bval_lt bs
  have h2 : 2 ^ bs.length ≤ 2 ^ k := Nat.pow_le_pow_right (by omega) (by omega)
  exact Nat.div_eq_of_lt (by omega)
theorem bgetD_drop (bs : List Bool) (k j : Nat) : (bs.drop k).getD j false = bs.getD (k + j) false := by
 rw [List.getD_eq_getElem?_getD, List.getD_eq_getElem?_getD, List.getElem?_drop]
theorem bgetD_ge {bs : List Bool} {n j : Nat} (h : bs.length = n) (hj : n ≤ j) : bs.getD j false = false := by
 rw [List.getD_eq_getElem?_getD, List.getElem?_eq_none (by omega)]; rfl
theorem bval_head (bs : List Bool) : bval bs % 2 = (bs.getD 0 false).toNat := by
 cases bs with
 | nil => rfl
 | cons b bs =>
  have := toNat_le b
  simp only [bval, List.getD_cons_zero]
  omega
theorem bval_at (bs : List Bool) (k : Nat) : bval bs / 2 ^ k % 2 = (bs.getD k false).toNat := by
 rw [bval_div, bval_head, bgetD_drop, Nat.add_zero]
theorem bval_bit (bs : List Bool) (k : Nat) (b : Bool) (h : bs.getD k false = b) : bval bs / 2 ^ k % 2 = b.toNat := by rw [bval_at, h]
def BC (bs : List Bool) : Prop := bs.length = blen (bval bs)
theorem BC.of_low {bs : List Bool} (h : 0 < bs.length → 2 ^ (bs.length - 1) ≤ bval bs) : BC bs := by
 unfold BC
 rcases Nat.eq_zero_or_pos bs.length with e | e
 ·rw [List.eq_nil_of_length_eq_zero e]; rfl
 ·have h1 := h e
  have h2 := bval_lt bs
  obtain ⟨m, hm⟩ : ∃ m, bs.length = m + 1 := ⟨bs.length - 1, by omega⟩
  rw [hm] at h1 h2 ⊢
  exact (blen_unique h1 h2).symm
def BCutAt (bs : List Bool) (m : Nat) : Prop := (∀ j, m ≤ j → bs.getD j false = false) ∧ (0 < m → bs.getD (m - 1) false = true)
theorem bval_eq_zero : ∀ bs : List Bool, (∀ j, bs.getD j false = false) → bval bs = 0
 | [], _ => rfl
 | b :: bs, h => by
  have h0 : b = false := h 0
  have h1 := bval_eq_zero bs (fun j => h (j + 1))
  simp [bval, h0, h1]
theorem bcut_val {bs : List Bool} {m : Nat} (hm : m ≤ bs.length) (hc : BCutAt bs m) : BC (bs.take m) ∧ bval (bs.take m) = bval bs := by
 have hz : bval (bs.drop m) = 0 := bval_eq_zero _ (fun j => by rw [bgetD_drop]; exact hc.1 _ (by omega))
 have hv : bval (bs.take m) = bval bs := by rw [bval_split bs m hm, hz]; omega
 have hl : (bs.take m).length = m := by rw [List.length_take]; omega
 refine ⟨BC.of_low (fun h0 => ?_), hv⟩
 rw [hl] at h0 ⊢
 rw [hv]
 have h1 := bval_at bs (m - 1)
 rw [hc.2 h0] at h1
 rcases Nat.lt_or_ge (bval bs) (2 ^ (m - 1)) with h2 | h2
 ·rw [Nat.div_eq_of_lt h2] at h1; simp at h1
 ·exact h2
theorem mod_succ (x k : Nat) : x % 2 ^ (k + 1) = x % 2 ^ k + 2 ^ k * (x / 2 ^ k % 2) := Nat.mod_pow_succ
theorem div_succ (x k : Nat) : x / 2 ^ (k + 1) = x / 2 ^ k / 2 := by rw [Nat.pow_succ, Nat.div_div_eq_div_mul]
theorem div_two (x k : Nat) : x / 2 ^ k = 2 * (x / 2 ^ (k + 1)) + x / 2 ^ k % 2 := by rw [div_succ]; omega
theorem decide_toNat (n : Nat) : (decide (n % 2 = 1)).toNat = n % 2 := by
 rcases Nat.mod_two_eq_zero_or_one n with h | h <;> simp [h]
structure OfInv (xs : List Nat) (bs : List Bool) (i k : Nat) (x : Nat) : Prop where
  len : bs.length = 32 * i + k
  sum : bval bs = val (xs.take i) + 4294967296 ^ i * (x % 2 ^ k)
theorem OfInv.zero (xs : List Nat) (i x : Nat) (bs : List Bool) (hl : bs.length = 32 * i) (hs : bval bs = val (xs.take i)) : OfInv xs bs i 0 x := ⟨by omega, by simp [hs, Nat.mod_one]⟩
theorem OfInv.step {xs : List Nat} {bs : List Bool} {i k x : Nat} (h : OfInv xs bs i k x) (b : Bool) (hb : b.toNat = x / 2 ^ k % 2) : OfInv xs (bs ++ [b]) i (k + 1) x := by
 refine ⟨by rw [List.length_append, h.len]; simp; omega, ?_⟩
 rw [bval_snoc, h.sum, h.len, hb, mod_succ, Nat.mul_add, Nat.pow_add, ← pw_two, Nat.add_assoc]
 congr 2
 ac_rfl
theorem OfInv.last {xs : List Nat} {bs : List Bool} {i x : Nat} (h : OfInv xs bs i 32 x) (hx : xs.getD i 0 = x) (hlt : x < 4294967296) : bs.length = 32 * (i + 1) ∧ bval bs = val (xs.take (i + 1)) := by
 refine ⟨by rw [h.len]; omega, ?_⟩
 rw [h.sum, take_succ_val, hx, Nat.mod_eq_of_lt (show x < 2 ^ 32 by omega)]
def Part (x i : Nat) : Nat := x / 2 ^ (32 * i) % 4294967296
theorem Part.lt (x i : Nat) : Part x i < 4294967296 := Nat.mod_lt _ (by omega)
theorem Part.bit (x i k : Nat) (hk : k < 32) : Part x i / 2 ^ k % 2 = x / 2 ^ (32 * i + k) % 2 := by
 unfold Part
 rw [Nat.pow_add, ← Nat.div_div_eq_div_mul]
 generalize x / 2 ^ (32 * i) = y
 obtain ⟨d, hd⟩ : ∃ d, 32 = k + (d + 1) := ⟨32 - k - 1, by omega⟩
 have e3 : (4294967296 : Nat) = 2 ^ k * (2 * 2 ^ d) := by rw [Nat.mul_comm 2, ← Nat.pow_succ, ← Nat.pow_add, ← hd]
 rw [e3, Nat.mod_mul_right_div_self, Nat.mod_mul_right_mod]
theorem Part.top (x i : Nat) : Part x i / 2 ^ 32 = 0 := Nat.div_eq_of_lt (by have := Part.lt x i; omega)
structure PartsInv (x : Nat) (ds : List Nat) (q : Nat) : Prop where
  len : ds.length = q
  dg : Dg ds
  sum : val ds = x % 2 ^ (32 * q)
theorem PartsInv.zero (x : Nat) : PartsInv x [] 0 := ⟨rfl, Dg.nil, by simp [val, Nat.mod_one]⟩
theorem PartsInv.step {x : Nat} {ds : List Nat} {q : Nat} (h : PartsInv x ds q) : PartsInv x (ds ++ [Part x q]) (q + 1) := by
 refine ⟨by rw [List.length_append, h.len]; rfl, h.dg.append (Dg.mk (Part.lt x q) Dg.nil), ?_⟩
 rw [val_append, val_one, h.sum, h.len, pw_two, show 32 * (q + 1) = 32 * q + 32 from by omega, Nat.pow_add, Nat.mod_mul]
 rfl
theorem PartsInv.last {x : Nat} {ds : List Nat} {q : Nat} (h : PartsInv x ds q) (hq : blen x ≤ 32 * q) (hq2 : 32 * q < blen x + 32) : Canon ds ∧ val ds = x := by
 have hx : x < 2 ^ (32 * q) := (blen_le x _).1 hq
 have hv : val ds = x := by rw [h.sum, Nat.mod_eq_of_lt hx]
 refine ⟨⟨h.dg, fun h0 => ?_⟩, hv⟩
 intro e0
 rw [h.len] at h0 e0
 have h1 := take_succ_val ds (q - 1)
 rw [show q - 1 + 1 = q from by omega, List.take_of_length_le (by rw [h.len]; exact Nat.le_refl _), e0, Nat.mul_zero, Nat.add_zero] at h1
 have h2 := val_take_lt h.dg (q - 1)
 rw [← h1, hv, pw_two] at h2
 have h3 := (blen_le x _).2 h2
 omega
end Go.Proofs.Ytcehklnonhalhaa
