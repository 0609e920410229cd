
/-
  sim: Peek, Step, New.
-/
import Derived.Test.YtcfmgoilncninaaHg
namespace Go.Proofs.Ytcfmgoilncninaa
open Go.RowKit
set_option linter.unusedVariables false
set_option maxRecDepth 4000

/-- append(out, x) of one cell: where the row lies then. -/
theorem wpList_push3 {P : Program} (w : World) {ops : Array Oper} {rest : List Oper} {o : Oper} {a : Act} {Q : Exit → Act → World → Prop} (hgd : o.guard = none) (s x : Operand) (t : TypeId)
    (ho : o.op = .call { callee := .builtin .append, args := #[s, x], argTypes := #[t, t] }) {e : TypeId} {bytes : Nat} (hE : Elm P t e 1 bytes) (hby : bytes ≤ 64)
    (base : Nat) (v : Value) (xs : List Value) (hs : a.eval s = v) (hown : Grow w base e v xs) (u : Value) (hu : u.oneCell' = true) (hx : a.eval x = .slice (some ⟨w.heap.size, 0, none⟩) 1 1)
    (hn : xs.length + 1 ≤ 1000000) (hbase : base ≤ w.heap.size)
    (h : ∀ g cap w', Grow w' base e (.slice (some ⟨g, 0, none⟩) (xs.length + 1) cap) (xs ++ [u]) → w.grownBy w' v.ownBlock → (v.ownBlock = some g ∨ w.heap.size ≤ g) → wpList P ops Q rest (a.put o.dst (.slice (some ⟨g, 0, none⟩) (xs.length + 1) cap)) w') : wpList P ops Q (o :: rest) a (w.alloc (.cells #[u] e)) := by
  have b1 : Below w.heap.size w (w.alloc (.cells #[u] e)) := below_lit _ _
  have hz : Bx (w.alloc (.cells #[u] e)) w.heap.size [u] := Bx.made_k w rfl #[u] e
  have hr1 := row_on hown b1
  obtain ⟨ht, i, z, hi, hz0, h3, h4, h5, _⟩ := hE
  refine wpList_append_lies _ hgd s x t ho base e i z 1 bytes ht hi hz0 h3 h4 h5 (by omega) v xs.length xs hs hr1 ⟨w.heap.size, 0, none⟩ 1 1 [u] hx rfl ?_ (by intro u' hu'; rw [List.mem_singleton.1 hu']; exact hu) (by omega) (by unfold maxLen; omega) ?_ (Nat.le_trans hbase b1.size) _ rfl ?_
  · intro j u' hj
    rw [add_plain, Nat.zero_add]
    exact hz.2 j u' hj
  · have : (xs.length + 1) * bytes ≤ 1000000 * 64 := Nat.mul_le_mul hn hby
    omega
  · intro g cap w' hg hG hgl _
    refine h g cap w' (by unfold Grow; rw [List.length_append]; exact hg) (Gb.trans (Gb.of _ b1) hG) ?_
    rcases hgl with e | e
    · exact .inl e
    · right
      rw [e]
      exact b1.size
theorem elm_int7 : Elm Try.prog 26 3 1 8 := elm_int
/-- a row's block. -/
theorem Grow.own {w : World} {base : Nat} {t : TypeId} {v : Value} {vs : List Value} (h : Grow w base t v vs) : ∀ b, v.ownBlock = some b → base ≤ b ∧ b < w.heap.size := fun b e => h.lt b e
theorem Grow.kept {w w' : World} {base : Nat} {t : TypeId} {v : Value} {vs : List Value} {r : Option Nat} (h : Grow w base t v vs) (hg : w.grownBy w' r) (hne : ∀ b, v.ownBlock = some b → r ≠ some b) : Grow w' base t v vs := by
  unfold Grow at h ⊢
  refine World.ownsRow.kept h hg ?_
  cases e : v.ownBlock with
  | none => exact .inl rfl
  | some b => exact .inr fun e2 => hne b e e2.symm
def gj (N : List Nd) (L : List Nat) (j : Nat) : List Int := nI (gatesS N (L.take j))
def rj (N : List Nd) (L : List Nat) (j : Nat) : List Int := nI (regsS N (L.take j))
theorem gj_in {N : List Nd} {L : List Nat} {j q : Nat} (hq : L[j]? = some q) (h : isGs (N.getD q nd0).k = true) : gj N L (j + 1) = gj N L j ++ [(q : Int)] := by
  rw [List.getD_eq_getElem?_getD] at h
  unfold gj gatesS nI
  rw [List.take_add_one, hq, List.filter_append, List.map_append]
  simp [h]
theorem gj_out {N : List Nd} {L : List Nat} {j q : Nat} (hq : L[j]? = some q) (h : isGs (N.getD q nd0).k = false) : gj N L (j + 1) = gj N L j := by
  rw [List.getD_eq_getElem?_getD] at h
  unfold gj gatesS nI
  rw [List.take_add_one, hq, List.filter_append, List.map_append]
  simp [h]
theorem rj_in {N : List Nd} {L : List Nat} {j q : Nat} (hq : L[j]? = some q) (h : (N.getD q nd0).k = 7) : rj N L (j + 1) = rj N L j ++ [(q : Int)] := by
  rw [List.getD_eq_getElem?_getD] at h
  unfold rj regsS nI
  rw [List.take_add_one, hq, List.filter_append, List.map_append]
  simp [h]
theorem rj_out {N : List Nd} {L : List Nat} {j q : Nat} (hq : L[j]? = some q) (h : (N.getD q nd0).k ≠ 7) : rj N L (j + 1) = rj N L j := by
  rw [List.getD_eq_getElem?_getD] at h
  unfold rj regsS nI
  rw [List.take_add_one, hq, List.filter_append, List.map_append]
  simp [h]
theorem gj_len (N : List Nd) (L : List Nat) (j : Nat) : (ivs (gj N L j)).length ≤ j := by
  rw [ivs_len7]
  unfold gj nI gatesS
  rw [List.length_map]
  exact Nat.le_trans (List.length_filter_le _ _) (by rw [List.length_take]; omega)
theorem rj_len (N : List Nd) (L : List Nat) (j : Nat) : (ivs (rj N L j)).length ≤ j := by
  rw [ivs_len7]
  unfold rj nI regsS
  rw [List.length_map]
  exact Nat.le_trans (List.length_filter_le _ _) (by rw [List.length_take]; omega)
theorem gates_ok {N : List Nd} {f : Nat → Nat} {L : List Nat} (h : Od N f L) : ∀ q ∈ nI (gatesS N L), gateOk N q := fun q hq => by
  unfold nI gatesS at hq
  obtain ⟨r, hr, rfl⟩ := List.mem_map.1 hq
  obtain ⟨h1, h2⟩ := List.mem_filter.1 hr
  have h3 := (h.mem r).1 h1
  unfold isGs at h2
  simp only [Bool.and_eq_true, decide_eq_true_eq] at h2
  exact ⟨by omega, by rw [Int.toNat_natCast]; exact h3, by rw [Int.toNat_natCast]; exact h2.1, by rw [Int.toNat_natCast]; exact h2.2.1, by rw [Int.toNat_natCast]; exact h2.2.2⟩
theorem regs_ok {N : List Nd} {f : Nat → Nat} {L : List Nat} (h : Od N f L) : ∀ q ∈ nI (regsS N L), regOk N q := fun q hq => by
  unfold nI regsS at hq
  obtain ⟨r, hr, rfl⟩ := List.mem_map.1 hq
  obtain ⟨h1, h2⟩ := List.mem_filter.1 hr
  have h3 := (h.mem r).1 h1
  exact ⟨by omega, by rw [Int.toNat_natCast]; exact h3, by rw [Int.toNat_natCast]; exact of_decide_eq_true h2⟩
theorem places_ok {n : Nat} {L : List Pt} (h : ∀ p ∈ L, bitsS n p = true) : ∀ p ∈ L, ∀ q ∈ p.bits, 0 ≤ q ∧ q.toNat < n := fun p hp q hq => by
  have h1 := h p hp
  unfold bitsS at h1
  have h2 := List.all_eq_true.1 (Bool.and_eq_true_iff.1 h1).2 q hq
  unfold placeS at h2
  simp at h2
  omega
end Go.Proofs.Ytcfmgoilncninaa
