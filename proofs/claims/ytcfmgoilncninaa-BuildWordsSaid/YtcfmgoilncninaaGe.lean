
/-
  net: two ports of one name; each Input comes in once.
-/
import Derived.Test.YtcfmgoilncninaaGd
namespace Go.Proofs.Ytcfmgoilncninaa
open Go.RowKit
set_option linter.unusedVariables false
set_option maxRecDepth 4000

def dupAt (L : List Pt) (j : Nat) : Bool := match L[j]? with
  | some p => (L.take j).any fun q => p.name.toList == q.name.toList
  | none => false
def dupS (L : List Pt) : Bool := (List.range L.length).any (dupAt L)
theorem range_anyn {p : Nat → Bool} {j : Nat} (h : (List.range j).any p = false) (hx : p j = false) : (List.range (j + 1)).any p = false := by
  rw [List.range_succ, List.any_append, h]
  simp [hx]
theorem range_any {p : Nat → Bool} {j n : Nat} (hj : j < n) (hx : p j = true) : (List.range n).any p = true := List.any_eq_true.2 ⟨j, List.mem_range.2 hj, hx⟩
theorem anyn_take {α : Type} {p : α → Bool} {L : List α} {k : Nat} {x : α} (h : (L.take k).any p = false) (hk : L[k]? = some x) (hx : p x = false) : (L.take (k + 1)).any p = false := by
  rw [List.take_add_one, hk, List.any_append, h]
  simp [hx]
theorem n6made_one (z : Value) (n : Nat) : madeCells #[z] n = (List.replicate n z).toArray := by
  unfold madeCells
  apply Array.ext
  · simp
  · intro i h1 h2
    simp [Nat.mod_one]
theorem info_parts' {x : Option TypeInfo} {z : Option Value} {s b : Nat} (h : x.map (fun i => (i.zero, i.size, i.bytes)) = some (z, s, b)) : ∃ i, x = some i ∧ i.zero = z ∧ i.size = s ∧ i.bytes = b := by
  cases x with
  | none => simp at h
  | some i =>
    simp only [Option.map_some, Option.some.injEq, Prod.mk.injEq] at h
    exact ⟨i, rfl, h.1, h.2.1, h.2.2⟩
/-- make([]T, n): a new block of n zeros. -/
theorem n6wpList_zeros {P : Program} (w : World) {ops : Array Oper} {rest : List Oper} {o : Oper} {a : Act} {Q : Exit → Act → World → Prop}
    (hg : o.guard = none) (l c : Operand) (t : TypeId) (hop : o.op = Op.makeSlice t l c) (e : TypeId) (z : Value) (by_ : Nat)
    (h1 : P.underlying t = some (.slice e)) (h2 : (P.info? e).map (fun i => (i.zero, i.size, i.bytes)) = some (some z, 1, by_)) (hz : z.cells = #[z]) (hb : by_ ≤ 64)
    (L : Int) (n : Nat) (hl : a.eval l = .int .i64 L) (hc : a.eval c = .int .i64 L) (hL : L = (n : Int)) (hn : n ≤ 3000000)
    (hK : ∀ w', Own w' w.heap.size e (List.replicate n z) → Below w.heap.size w w' → w'.heap.size = w.heap.size + 1 → wpList P ops Q rest (a.put o.dst (.slice (some ⟨w.heap.size, 0, none⟩) n n)) w') :
    wpList P ops Q (o :: rest) a w := by
  refine wpList_plain hg fun K hK' => ?_
  obtain ⟨i, hi, i1, i2, i3⟩ := info_parts' h2
  subst hL
  have hby : (i.bytes : Int) * (n : Int) ≤ 281474976710656 := by
    have : i.bytes * n ≤ 64 * 3000000 := Nat.mul_le_mul (by omega) hn
    have h : ((i.bytes * n : Nat) : Int) ≤ 281474976710656 := by omega
    rwa [Int.natCast_mul] at h
  have hrun := run_make (P := P) w t e i z h1 hi i1 .i64 .i64 n n (by omega) (by omega) hby (by omega)
  rw [Int.toNat_natCast, i2, Nat.mul_one, hz, n6made_one] at hrun
  unfold Oper.wp
  simp [execOp, hop, hl, hc, hrun, Result.andThen]
  exact hK' _ _ (hK _ (Own.made w e _) ((Below.refl _ _).alloc (Nat.le_refl _) _) (by simp))
theorem n6bool_info : (Try.prog.info? 4).map (fun i => (i.zero, i.size, i.bytes)) = some (some (.bool false), 1, 1) := by kernel_rfl
/-- which places came. -/
def seen (n : Nat) (P : List Int) : List Value := (List.range n).map fun i : Nat => .bool (decide ((i : Int) ∈ P))
theorem seen_nil (n : Nat) : List.replicate n (Value.bool false) = seen n [] := by
  apply List.ext_getElem
  · simp [seen]
  · intro i h1 h2
    simp [seen]
theorem seen_at {n p : Nat} {P : List Int} (h : p < n) : (seen n P)[p]? = some (.bool (decide ((p : Int) ∈ P))) := by
  unfold seen
  rw [List.getElem?_map, List.getElem?_range h]
  rfl
theorem seen_set {n p : Nat} {P : List Int} (h : p < n) : (seen n P).set p (.bool true) = seen n (P ++ [(p : Int)]) := by
  apply List.ext_getElem?
  intro i
  rw [List.getElem?_set]
  by_cases hi : i < n
  · rw [seen_at hi, seen_at hi]
    by_cases hp : p = i
    · subst hp
      simp [seen, h]
    · rw [if_neg hp]
      have : (i : Int) ≠ (p : Int) := by omega
      simp [this]
  · have h1 : (seen n P)[i]? = none := by simp [seen]; omega
    have h2 : (seen n (P ++ [(p : Int)]))[i]? = none := by simp [seen]; omega
    rw [h1, h2, if_neg (by omega)]
def kindAt (N : List Nd) (i : Nat) : Int := match N[i]? with | some y => y.k | none => 0
def comesS (L : List Pt) : List Int := L.flatMap Pt.bits
def fedAt (N : List Nd) (B : List Int) (i : Nat) : Bool := decide (B.count (i : Int) = if kindAt N i = 1 then 1 else 0)
/-- is each Input a bit that comes in, just once, and nothing else? -/
def fedS (N : List Nd) (L : List Pt) : Bool := (List.range N.length).all (fedAt N (comesS L))
def Fdp (N : List Nd) (P : List Int) : Prop := P.Nodup ∧ ∀ i : Nat, (i : Int) ∈ P → kindAt N i = 1
theorem Fdp.nil_ (N : List Nd) : Fdp N [] := ⟨List.nodup_nil, fun i h => by cases h⟩
theorem Fdp.snoc {N : List Nd} {P : List Int} {p : Nat} (h : Fdp N P) (hk : kindAt N p = 1) (hn : decide ((p : Int) ∈ P) = false) : Fdp N (P ++ [(p : Int)]) := by
  refine ⟨List.nodup_append.2 ⟨h.1, by simp, fun a ha b hb e => ?_⟩, fun i hi => ?_⟩
  · simp only [List.mem_singleton] at hb
    subst e hb
    exact of_decide_eq_false hn ha
  · rcases List.mem_append.1 hi with hi | hi
    · exact h.2 i hi
    · simp only [List.mem_singleton] at hi
      have : i = p := by omega
      subst this
      exact hk
theorem comes_split {L : List Pt} {j : Nat} {nm : ByteArray} {bs : List Int} (hx : L[j]? = some ⟨nm, bs⟩) {l : Nat} {x : Int} (hl : bs[l]? = some x) : ∃ R, comesS L = (comesS (L.take j) ++ bs.take l) ++ x :: R := by
  obtain ⟨h1, h2⟩ := List.getElem?_eq_some_iff.1 hx
  obtain ⟨h3, h4⟩ := List.getElem?_eq_some_iff.1 hl
  have e1 : L = L.take j ++ (⟨nm, bs⟩ :: L.drop (j + 1)) := by rw [← h2, ← List.drop_eq_getElem_cons h1, List.take_append_drop]
  have e2 : bs = bs.take l ++ (x :: bs.drop (l + 1)) := by rw [← h4, ← List.drop_eq_getElem_cons h3, List.take_append_drop]
  refine ⟨bs.drop (l + 1) ++ comesS (L.drop (j + 1)), ?_⟩
  conv => lhs; rw [e1]
  unfold comesS
  rw [List.flatMap_append, List.flatMap_cons]
  conv => lhs; rw [e2]
  simp
theorem comes_take {L : List Pt} {j : Nat} {nm : ByteArray} {bs : List Int} (hx : L[j]? = some ⟨nm, bs⟩) : comesS (L.take (j + 1)) = comesS (L.take j) ++ bs := by
  unfold comesS
  rw [List.take_add_one, hx, List.flatMap_append]
  simp
theorem fed_kind {N : List Nd} {L : List Pt} {P R : List Int} {p : Nat} (he : comesS L = P ++ (p : Int) :: R) (hp : p < N.length) (hk : kindAt N p ≠ 1) : fedS N L = false := by
  refine range_not hp ?_
  unfold fedAt
  rw [he, List.count_append, List.count_cons_self, if_neg hk]
  exact decide_eq_false (by omega)
theorem fed_twice {N : List Nd} {L : List Pt} {P R : List Int} {p : Nat} (he : comesS L = P ++ (p : Int) :: R) (hp : p < N.length) (hm : decide ((p : Int) ∈ P) = true) : fedS N L = false := by
  refine range_not hp ?_
  have := List.count_pos_iff.2 (of_decide_eq_true hm)
  unfold fedAt
  rw [he, List.count_append, List.count_cons_self]
  exact decide_eq_false (by split <;> omega)
theorem fed_none {N : List Nd} {L : List Pt} {p : Nat} (hp : p < N.length) (hk : kindAt N p = 1) (hm : decide ((p : Int) ∈ comesS L) = false) : fedS N L = false := by
  refine range_not hp ?_
  have := List.count_eq_zero.2 (of_decide_eq_false hm)
  unfold fedAt
  rw [this, if_pos hk]
  exact decide_eq_false (by omega)
theorem fed_ok {N : List Nd} {L : List Pt} (h : Fdp N (comesS L)) (hall : ∀ i < N.length, kindAt N i = 1 → decide ((i : Int) ∈ comesS L) = true) : fedS N L = true := by
  unfold fedS
  rw [List.all_eq_true]
  intro i hi
  have hi := List.mem_range.1 hi
  unfold fedAt
  rw [h.1.count]
  by_cases hk : kindAt N i = 1
  · rw [if_pos hk, if_pos (of_decide_eq_true (hall i hi hk))]
    rfl
  · rw [if_neg hk, if_neg (fun hm => hk (h.2 i hm))]
    rfl
theorem Own.cells_at {w : World} {g n p : Nat} {P : List Int} {t : TypeId} (h : Own w g t (seen n P)) (hp : p < n) : w.cell? ⟨g, p, none⟩ = some (.bool (decide ((p : Int) ∈ P))) := by
  rw [h.cell p, seen_at hp]
theorem Ps.at0 {w : World} {A : Option Addr} {n : Nat} {L : List Pt} (h : Ps w A n L) {k : Nat} (hk : k < n) : ∃ b off nm A' m c' bs, A = some ⟨b, off, none⟩ ∧ b < w.heap.size ∧ Hid (L[k]? = some ⟨nm, bs⟩) ∧ w.cell? ⟨b, off + k * 2, none⟩ = some (.string nm) ∧ w.cell? ⟨b, off + k * 2 + 1, none⟩ = some (.slice A' m c') ∧ Is w A' m bs := by
  obtain ⟨⟨nm, bs⟩, hx⟩ := look_ex h.1 hk
  obtain ⟨b, off, A', m, c, h1, h2, h3, h4, h5, h6, h7⟩ := h.2 k _ hx
  exact ⟨b, off, nm, A', m, c, bs, h1, h2, Lib.hid hx, h3, h4, h7⟩
end Go.Proofs.Ytcfmgoilncninaa
