/-
  The reference's cut, Bit, Zeros, Full, Cmp: what only reads bits.
  The reference's Zeros, Full, Cmp.
  The reference's Word, Of: lists of bits that grow.
  The reference's Parts, Add, Sub.
  The reference's Sub, Left, Right.
-/
import Derived.Test.YtpachoeignpcbaaDoorNB
import Derived.Test.YtpachoeignpcbaaDoorMA
import Derived.Test.YtpachoeignpcbaaDoorNA
namespace Go.Proofs.YtpachoeignpcbaaDoor
open Go.RowKit
set_option linter.unusedVariables false

/-- bits as cells. -/
def Bo (bs : List Bool) : List Value := bs.map Value.bool
theorem Bo_len (bs : List Bool) : (Bo bs).length = bs.length := by simp [Bo]
theorem Bo_at (bs : List Bool) (i : Nat) : (Bo bs)[i]? = (bs[i]?).map Value.bool := by simp [Bo]
theorem Bo_take (bs : List Bool) (m : Nat) : (Bo bs).take m = Bo (bs.take m) := by simp [Bo, List.map_take]
theorem Bo_drop (bs : List Bool) (m : Nat) : (Bo bs).drop m = Bo (bs.drop m) := by simp [Bo, List.map_drop]
theorem Bo_snoc (bs : List Bool) (b : Bool) : Bo bs ++ [Value.bool b] = Bo (bs ++ [b]) := by simp [Bo]

/-- where something is read, the slice at A lies in a block of elements of type t. -/
def Tg (w : World) (A : Option Addr) (n : Nat) (t : TypeId) : Prop := 0 < n → ∃ b off cs f, A = some ⟨b, off, none⟩ ∧ w.heap[b]? = some (.cells cs t f)
theorem Tg.nil_ {w : World} {A : Option Addr} {t : TypeId} : Tg w A 0 t := fun h => by omega
theorem Tg.on {w w' : World} {A : Option Addr} {n : Nat} {t : TypeId} (h : Tg w A n t) (hb : Below w.heap.size w w') : Tg w' A n t := fun h0 => by
  obtain ⟨b, off, cs, f, e, hc⟩ := h h0
  exact ⟨b, off, cs, f, e, (hb.block b (Array.getElem?_eq_some_iff.1 hc).1).trans hc⟩
theorem Tg.less {w : World} {A : Option Addr} {n m : Nat} {t : TypeId} (h : Tg w A n t) (hm : m ≤ n) : Tg w A m t := fun h0 => h (by omega)
theorem Tg.put {w : World} {A : Option Addr} {n : Nat} {t : TypeId} (h : Tg w A n t) (g i : Nat) (v : Value) : Tg (w.setCell ⟨g, i, none⟩ v) A n t := fun h0 => by
  obtain ⟨b, off, cs, f, e, hc⟩ := h h0
  by_cases hp : g = b
  · refine ⟨b, off, cs.setIfInBounds i v, f, e, ?_⟩
    subst hp
    simp [World.setCell, Array.getElem?_modify, hc]
  · refine ⟨b, off, cs, f, e, ?_⟩
    simp [World.setCell, Array.getElem?_modify, hp, hc]

/-- the slice at A reads as the bits bs; they lie in a block of bits. -/
def BS (w : World) (A : Option Addr) (n : Nat) (bs : List Bool) : Prop := Sl w w.heap.size A n (Bo bs) ∧ Tg w A n 4
theorem BS.nil_ {w : World} {A : Option Addr} : BS w A 0 [] := ⟨Sl.nil_, Tg.nil_⟩
theorem BS.len {w : World} {A : Option Addr} {n : Nat} {bs : List Bool} (h : BS w A n bs) : bs.length = n := by rw [← Bo_len]; exact h.1.1
theorem BS.on {w w' : World} {A : Option Addr} {n : Nat} {bs : List Bool} (h : BS w A n bs) (hb : Below w.heap.size w w') : BS w' A n bs := ⟨(Sl.below h.1 hb).more hb.size, h.2.on hb⟩
theorem BS.take {w : World} {A : Option Addr} {n : Nat} {bs : List Bool} (h : BS w A n bs) {m : Nat} (hm : m ≤ n) : BS w A m (bs.take m) := by
  have := Sl.take h.1 hm
  rw [Bo_take] at this
  exact ⟨this, h.2.less hm⟩
theorem BS.look {w : World} {A : Option Addr} {n k : Nat} {bs : List Bool} (h : BS w A n bs) (hk : k < n) : ∃ b off x, A = some ⟨b, off, none⟩ ∧ b < w.heap.size ∧ Hid (bs.getD k false = x) ∧ w.cell? ⟨b, off + k, none⟩ = some (.bool x) := by
  obtain ⟨b, off, u, e, hb, hu, hc⟩ := Sl.look h.1 hk
  have hl : k < bs.length := by have := h.len; omega
  rw [Bo_at, List.getElem?_eq_getElem hl] at hu
  simp at hu
  subst hu
  refine ⟨b, off, bs[k], e, hb, ?_, hc⟩
  show _ = _
  rw [List.getD_eq_getElem?_getD, List.getElem?_eq_getElem hl]; rfl

/-- the slice at A tells the number x by bits, none 0 at the end. -/
def BR (w : World) (A : Option Addr) (n c x : Nat) : Prop := ∃ bs, BS w A n bs ∧ n ≤ c ∧ c ≤ maxLen ∧ BC bs ∧ bval bs = x
theorem BR.on {w w' : World} {A : Option Addr} {n c x : Nat} (h : BR w A n c x) (hb : Below w.heap.size w w') : BR w' A n c x := by
  obtain ⟨bs, h1, h2⟩ := h
  exact ⟨bs, h1.on hb, h2⟩
theorem BR.size {w : World} {A : Option Addr} {n c x : Nat} (h : BR w A n c x) : n = blen x := by
  obtain ⟨bs, h1, h2, h3, h4, h5⟩ := h
  rw [← h1.len, ← h5]; exact h4
theorem BR.cap {w : World} {A : Option Addr} {n c x : Nat} (h : BR w A n c x) : n ≤ c ∧ c ≤ maxLen := by
  obtain ⟨bs, h1, h2, h3, h4, h5⟩ := h
  exact ⟨h2, h3⟩

def BCutPost (w : World) (A : Option Addr) (n c : Nat) (bs : List Bool) (e : Ending) (w' : World) : Prop :=
  ∃ m, m ≤ n ∧ BCutAt bs m ∧ e = .returned (.slice A m c) ∧ w = w'
def BCutN (w : World) (A : Option Addr) (n c x : Nat) (e : Ending) (w' : World) : Prop := ∃ m, e = .returned (.slice A m c) ∧ BR w A m c x ∧ m ≤ n ∧ w = w'
/-- the bit of a place, any place. -/
def bitAt (bs : List Bool) (i : Int) : Bool := if i < 0 then false else bs.getD i.toNat false
end Go.Proofs.YtpachoeignpcbaaDoor

namespace Go.Proofs.YtpachoeignpcbaaDoor
open Go.RowKit
set_option linter.unusedVariables false

theorem bctz {bs : List Bool} {k : Nat} (hz : ∀ j, j < k → bs.getD j false = false) (hk : bs.getD k false = true) : Ctz (bval bs) k := by
  have hl : k < bs.length := by
    rcases Nat.lt_or_ge k bs.length with h | h
    · exact h
    · rw [bgetD_ge rfl h] at hk; cases hk
  have e0 : bval bs % 2 ^ k = 0 := by
    rw [bval_mod]
    refine bval_eq_zero _ (fun j => ?_)
    by_cases hj : j < k
    · rw [List.getD_eq_getElem?_getD, List.getElem?_take, if_pos hj, ← List.getD_eq_getElem?_getD]; exact hz j hj
    · exact bgetD_ge rfl (by rw [List.length_take]; omega)
  have h1 := bval_bit bs k true hk
  simp only [Bool.toNat_true] at h1
  have h2 := Nat.div_add_mod (bval bs) (2 ^ k)
  rw [e0] at h2
  refine ⟨?_, bval bs / 2 ^ k / 2, ?_⟩
  · intro e; rw [e] at h1; simp at h1
  · rw [← h2]
    rw [Nat.add_zero, Nat.mul_div_cancel_left _ (Nat.two_pow_pos k)]
    congr 1
    omega

theorem bitAt_nat (bs : List Bool) (k : Nat) : bitAt bs (k : Int) = bs.getD k false := by
  unfold bitAt
  rw [if_neg (by omega), Int.toNat_natCast]

end Go.Proofs.YtpachoeignpcbaaDoor

namespace Go.Proofs.YtpachoeignpcbaaDoor
open Go.RowKit
set_option linter.unusedVariables false

/-- the slice value v is the call's own (or nil) and holds the cells xs. -/
def Grow (w : World) (base : Nat) (t : TypeId) (v : Value) (xs : List Value) : Prop := w.ownsRow base t 1 v xs.length xs

theorem Grow.form {w : World} {base : Nat} {t : TypeId} {v : Value} {xs : List Value} (h : Grow w base t v xs) : ∃ A c, v = .slice A xs.length c ∧ Sl w w.heap.size A xs.length xs ∧ xs.length ≤ c ∧ c ≤ maxLen := by
  rcases h.2 with ⟨rfl, hn⟩ | ⟨g, cap, cur, rfl, hb, hg, h1, h2, h3, h4⟩
  · have : xs = [] := List.eq_nil_of_length_eq_zero hn
    subst this
    exact ⟨none, 0, rfl, Sl.nil_, Nat.le_refl _, by unfold maxLen; omega⟩
  · refine ⟨some ⟨g, 0, none⟩, cap, rfl, ⟨rfl, fun i u hu => ⟨g, 0, rfl, (Array.getElem?_eq_some_iff.1 hg).1, ?_⟩⟩, h1, h2⟩
    rw [Nat.zero_add, cell_of_row w g i cur t (0, 0) hg]
    rw [← h4, List.getElem?_take] at hu
    split at hu
    · simpa using hu
    · cases hu
theorem Grow.tag {w : World} {base n c : Nat} {t : TypeId} {A : Option Addr} {xs : List Value} (h : Grow w base t (.slice A n c) xs) : Tg w A n t := fun h0 => by
  rcases h.2 with ⟨hv, hn⟩ | ⟨g, cap, cur, hv, hb, hg, h1, h2, h3, h4⟩
  · injection hv with _ e; omega
  · injection hv with e
    exact ⟨g, 0, cur, _, e, hg⟩
theorem Grow.bits {w : World} {base : Nat} {v : Value} {bs : List Bool} (h : Grow w base 4 v (Bo bs)) : ∃ A c, v = .slice A (Bo bs).length c ∧ BS w A (Bo bs).length bs ∧ (Bo bs).length ≤ c ∧ c ≤ maxLen := by
  obtain ⟨A, c, hv, hs, h1, h2⟩ := h.form
  subst hv
  exact ⟨A, c, rfl, ⟨hs, h.tag⟩, h1, h2⟩
theorem Grow.made (w : World) {base : Nat} (t : TypeId) (hb : base ≤ w.heap.size) : Grow (w.alloc (.cells #[] t)) base t (.slice (some ⟨w.heap.size, 0, none⟩) 0 0) [] :=
  World.ownsRow_lit w #[] 0 hb (by unfold maxLen; omega) rfl

/-- append(out, x), one element of one cell. -/
theorem wpList_push {P : Program} (w : World) {ops : Array Oper} {rest : List Oper} {o : Oper} {a : Act} {Q : Exit → Act → World → Prop} (hgd : o.guard = none) (s x : Operand) (t : TypeId)
    (ho : o.op = .call { callee := .builtin .append, args := #[s, x], argTypes := #[t, t] })
    (base : Nat) (e : TypeId) (z : Value) (by_ : Nat) (ht : P.underlying t = some (.slice e)) (h2 : (P.info? e).map (fun i => (i.zero, i.size, i.bytes)) = some (some z, 1, by_)) (hz : z.cells.size = 1) (hby : by_ ≤ 64)
    (v : Value) (xs : List Value) (hs : a.eval s = v) (hown : Grow w base e v xs) (u : Value) (hu : u.oneCell' = true) (hx : a.eval x = .slice (some ⟨w.heap.size, 0, none⟩) 1 1)
    (hlen : xs.length ≤ 3000000) (hbase : base ≤ w.heap.size)
    (h : ∀ v' w', Grow w' base e v' (xs ++ [u]) → Below base w w' → wpList P ops Q rest (a.put o.dst v') w') : wpList P ops Q (o :: rest) a (w.alloc (.cells #[u] e)) := by
  obtain ⟨i, hi, i1, i2, i3⟩ := info_parts h2
  refine wpList_append_own _ hgd s x t ho base e i z 1 by_ ht hi i1 i2 i3 hz (by omega) v xs.length xs hs (World.ownsRow.alloc hown _) ⟨w.heap.size, 0, none⟩ 1 1 [u] hx rfl ?_ ?_ ?_ ?_ ?_ ?_
  · intro j u' hj
    match j, hj with
    | 0, hj =>
      simp at hj
      subst hj
      simp [Addr.add]
  · intro u' hu'
    simp at hu'
    subst hu'
    exact hu
  · unfold maxLen; omega
  · have : (xs.length + 1) * by_ ≤ 3000001 * 64 := Nat.mul_le_mul (by omega) hby
    omega
  · simp; omega
  · intro v' w' hown' hg _
    refine h v' w' ?_ ?_
    · unfold Grow
      rw [List.length_append]
      exact hown'
    · refine (Below.refl base w).alloc hbase _ |>.grown hg (by simp; omega) (fun k hk => ?_)
      exact (World.ownsRow.lt hown k hk).1

theorem bool_info : (Tryd.prog.info? 4).map (fun i => (i.zero, i.size, i.bytes)) = some (some (.bool false), 1, 1) := by kernel_rfl

/-- a function that answers bits. -/
def BitsPost (w : World) (x : Nat) (e : Ending) (w' : World) : Prop := ∃ A n c, e = .returned (.slice A n c) ∧ BR w' A n c x ∧ Below w.heap.size w w'

theorem bit_odd (n : Nat) : (((n : Int) % 2) == 1) = decide (n % 2 = 1) := by
  rw [Bool.eq_iff_iff]; simp; omega

end Go.Proofs.YtpachoeignpcbaaDoor

namespace Go.Proofs.YtpachoeignpcbaaDoor
open Go.RowKit
set_option linter.unusedVariables false

theorem U_snoc (ds : List Nat) (x : Nat) : U ds ++ [Value.int .u32 (x : Int)] = U (ds ++ [x]) := by simp [U]

def PartsPost (w : World) (x : Nat) (e : Ending) (w' : World) : Prop := ∃ A n c, e = .returned (.slice A n c) ∧ Res w' A n x ∧ n ≤ blen x / 32 + 1 ∧ Below w.heap.size w w'

end Go.Proofs.YtpachoeignpcbaaDoor

namespace Go.Proofs.YtpachoeignpcbaaDoor
open Go.RowKit
set_option linter.unusedVariables false

theorem Bo_zeros (n : Nat) : List.replicate n (Value.bool false) = Bo (List.replicate n false) := by simp [Bo]
theorem Own.grow {w : World} {base g : Nat} {t : TypeId} {cs : List Value} (h : Own w g t cs) (hb : base ≤ g) (hm : cs.length ≤ maxLen) : Grow w base t (.slice (some ⟨g, 0, none⟩) cs.length cs.length) cs :=
  ⟨by simp, .inr ⟨g, cs.length, cs.toArray, rfl, hb, h, Nat.le_refl _, hm, by simp, by simp⟩⟩

theorem grow_zeros {w : World} {g i : Nat} {t : TypeId} (h : Own w g t (List.replicate i (Value.bool false))) (hi : i ≤ 1000000) : Grow w g t (.slice (some ⟨g, 0, none⟩) i i) (Bo (List.replicate i false)) := by
  have := h.grow (Nat.le_refl g) (by rw [List.length_replicate]; unfold maxLen; omega)
  rw [List.length_replicate, Bo_zeros] at this
  exact this
theorem add_at (b off j : Nat) : (⟨b, off, none⟩ : Addr).add j = ⟨b, off + j, none⟩ := by
  unfold Addr.add
  split
  · rename_i e; subst e; rfl
  · rfl
/-- append(out, src...), the source being at an address. -/
theorem wpList_join {P : Program} (w : World) {ops : Array Oper} {rest : List Oper} {o : Oper} {a : Act} {Q : Exit → Act → World → Prop} (hgd : o.guard = none) (s x : Operand) (t : TypeId)
    (ho : o.op = .call { callee := .builtin .append, args := #[s, x], argTypes := #[t, t] })
    (base : Nat) (e : TypeId) (z : Value) (by_ : Nat) (ht : P.underlying t = some (.slice e)) (h2 : (P.info? e).map (fun i => (i.zero, i.size, i.bytes)) = some (some z, 1, by_)) (hz : z.cells.size = 1) (hby : by_ ≤ 64)
    (v : Value) (xs : List Value) (hs : a.eval s = v) (hown : Grow w base e v xs) (B b off m c : Nat) (ys : List Value) (hx : a.eval x = .slice (some ⟨b, off, none⟩) m c) (hy : Sl w B (some ⟨b, off, none⟩) m ys)
    (hu : ∀ u ∈ ys, u.oneCell' = true) (hlen : xs.length + m ≤ 3000000) (hbase : base ≤ w.heap.size)
    (h : ∀ v' w', Grow w' base e v' (xs ++ ys) → Below base w w' → wpList P ops Q rest (a.put o.dst v') w') : wpList P ops Q (o :: rest) a w := by
  obtain ⟨i, hi, i1, i2, i3⟩ := info_parts h2
  refine wpList_append_own _ hgd s x t ho base e i z 1 by_ ht hi i1 i2 i3 hz (by omega) v xs.length xs hs hown ⟨b, off, none⟩ m c ys hx (by rw [hy.1, Nat.mul_one]) ?_ hu ?_ ?_ hbase ?_
  · intro j u hj
    obtain ⟨b', off', he, _, hc⟩ := hy.2 j u hj
    injection he with he
    injection he with e1 e2
    subst e1 e2
    rw [add_at]
    exact hc
  · unfold maxLen; omega
  · have : (xs.length + m) * by_ ≤ 3000000 * 64 := Nat.mul_le_mul (by omega) hby
    omega
  · intro v' w' hown' hg _
    refine h v' w' ?_ ?_
    · unfold Grow
      rw [List.length_append, hy.1]
      exact hown'
    · exact (Below.refl base w).grown hg hbase (fun k hk => (World.ownsRow.lt hown k hk).1)
theorem Bo_one (bs : List Bool) : ∀ u ∈ Bo bs, u.oneCell' = true := by
  intro u hu
  obtain ⟨b, _, rfl⟩ := List.mem_map.1 hu
  rfl
theorem Bo_append (as_ bs : List Bool) : Bo as_ ++ Bo bs = Bo (as_ ++ bs) := by simp [Bo]

end Go.Proofs.YtpachoeignpcbaaDoor
