/-
  What the proofs of SweepTells and SweepCones and SweepSame need: Gr.
-/
import Derived.Test.YtcehklnonhalhaaSWGn
import Derived.Laws.OwnMore
import Derived.Deep.AppendLies
namespace Go.Proofs.Ytcehklnonhalhaa
open Go.RowKit
set_option linter.unusedVariables false
set_option maxRecDepth 4000

theorem row_on {w w' : World} {base : Nat} {e : TypeId} {size : Nat} {v : Value} {n : Nat} {xs : List Value} (h : w.ownsRow base e size v n xs) (hb : Below w.heap.size w w') : w'.ownsRow base e size v n xs := by
  have hl := h.lt
  refine ⟨h.1, ?_⟩
  rcases h.2 with h1 | ⟨g, cap, cur, rfl, h2, h3, h4⟩
  · exact .inl h1
  · exact .inr ⟨g, cap, cur, rfl, h2, (hb.block g (hl g rfl).2).trans h3, h4⟩
/-- places that a slice reads, in blocks that are so. -/
def IsB (ok : Nat → Prop) (w : World) (A : Option Addr) (n : Nat) (L : List Int) : Prop := L.length = n ∧ ∀ k x, L[k]? = some x → ∃ b off, A = some ⟨b, off, none⟩ ∧ ok b ∧ b < w.heap.size ∧ w.cell? ⟨b, off + k, none⟩ = some (.int .i64 x)
section
variable {ok ok' : Nat → Prop} {w w' : World} {A : Option Addr} {n : Nat}
theorem IsB.is {L : List Int} (h : IsB ok w A n L) : Is w A n L := ⟨h.1, fun k x hx => by
  obtain ⟨b, off, h1, _, h2⟩ := h.2 k x hx
  exact ⟨b, off, h1, h2⟩⟩
theorem Is.isB {L : List Int} (h : Is w A n L) (hk : ∀ b off, A = some ⟨b, off, none⟩ → b < w.heap.size → ok b) : IsB ok w A n L := ⟨h.1, fun k x hx => by
  obtain ⟨b, off, h1, h2, h3⟩ := h.2 k x hx
  exact ⟨b, off, h1, hk b off h1 h2, h2, h3⟩⟩
theorem IsB.imp {L : List Int} (h : IsB ok w A n L) (hk : ∀ b, ok b → ok' b) : IsB ok' w A n L := ⟨h.1, fun k x hx => by
  obtain ⟨b, off, h1, h2, h3⟩ := h.2 k x hx
  exact ⟨b, off, h1, hk b h2, h3⟩⟩
theorem IsB.on {L : List Int} (h : IsB ok w A n L) (hb : Below w.heap.size w w') : IsB ok w' A n L := ⟨h.1, fun k x hx => by
  obtain ⟨b, off, h1, h2, h3, h4⟩ := h.2 k x hx
  exact ⟨b, off, h1, h2, Nat.lt_of_lt_of_le h3 hb.size, (hb.cell (p := ⟨b, off + k, none⟩) h3).trans h4⟩⟩
theorem IsB.far {L : List Int} {g : Nat} (h : IsB ok w A n L) (hg : w.grownBy w' (some g)) (hk : ∀ b, ok b → b ≠ g) : IsB ok w' A n L := ⟨h.1, fun k x hx => by
  obtain ⟨b, off, h1, h2, h3, h4⟩ := h.2 k x hx
  exact ⟨b, off, h1, h2, Nat.lt_of_lt_of_le h3 hg.size, (hg.cell_far ⟨b, off + k, none⟩ h3 (fun e => hk b h2 (by injection e))).trans h4⟩⟩
/-- ports that a slice reads, all in blocks that are no lower than s. -/
def PsH (s : Nat) (w : World) (A : Option Addr) (n : Nat) (L : List Pt) : Prop := L.length = n ∧ ∀ k p, L[k]? = some p → ∃ b off A' m c, A = some ⟨b, off, none⟩ ∧ s ≤ b ∧ b < w.heap.size ∧ w.cell? ⟨b, off + k * 2, none⟩ = some (.string p.name) ∧ w.cell? ⟨b, off + k * 2 + 1, none⟩ = some (.slice A' m c) ∧ (m ≤ c ∧ (A' = none → c = 0)) ∧ c ≤ maxLen ∧ IsB (s ≤ ·) w A' m p.bits
theorem PsH.ps {s : Nat} {L : List Pt} (h : PsH s w A n L) : Ps w A n L := ⟨h.1, fun k p hp => by
  obtain ⟨b, off, A', m, c, h1, _, h2, h3, h4, h5, h6, h7⟩ := h.2 k p hp
  exact ⟨b, off, A', m, c, h1, h2, h3, h4, h5, h6, h7.is⟩⟩
theorem PsH.on {s : Nat} {L : List Pt} (h : PsH s w A n L) (hb : Below w.heap.size w w') : PsH s w' A n L := ⟨h.1, fun k p hp => by
  obtain ⟨b, off, A', m, c, h1, h0, h2, h3, h4, h5, h6, h7⟩ := h.2 k p hp
  exact ⟨b, off, A', m, c, h1, h0, Nat.lt_of_lt_of_le h2 hb.size, (hb.cell (p := ⟨b, off + k * 2, none⟩) h2).trans h3, (hb.cell (p := ⟨b, off + k * 2 + 1, none⟩) h2).trans h4, h5, h6, h7.on hb⟩⟩
theorem PsH.mono {s s' : Nat} {L : List Pt} (h : PsH s w A n L) (hs : s' ≤ s) : PsH s' w A n L := ⟨h.1, fun k p hp => by
  obtain ⟨b, off, A', m, c, h1, h0, h2, h3, h4, h5, h6, h7⟩ := h.2 k p hp
  exact ⟨b, off, A', m, c, h1, Nat.le_trans hs h0, h2, h3, h4, h5, h6, h7.imp fun b hb => Nat.le_trans hs hb⟩⟩
theorem PsH.far {s g : Nat} {L : List Pt} (h : PsH s w A n L) (hg : w.grownBy w' (some g)) (hs : g < s) : PsH s w' A n L := ⟨h.1, fun k p hp => by
  obtain ⟨b, off, A', m, c, h1, h0, h2, h3, h4, h5, h6, h7⟩ := h.2 k p hp
  have hne : some b ≠ some g := fun e => by injection e with e; omega
  exact ⟨b, off, A', m, c, h1, h0, Nat.lt_of_lt_of_le h2 hg.size, (hg.cell_far ⟨b, off + k * 2, none⟩ h2 hne).trans h3, (hg.cell_far ⟨b, off + k * 2 + 1, none⟩ h2 hne).trans h4, h5, h6, h7.far hg (fun b hb => by omega)⟩⟩
end
theorem set_app {α : Type} (A B : List α) (k : Nat) (u : α) : (A ++ B).set (A.length + k) u = A ++ B.set k u := by
  rw [List.set_append_right _ _ (by omega), Nat.add_sub_cancel_left]
theorem flat_set (R : List Rp) (j : Nat) (A : Option Addr) (m c : Nat) (r : Rp) (h : R[j]? = some r) : (R.flatMap ptC).set (j * 2 + 1) (.slice A m c) = (R.set j ⟨r.name, A, m, c⟩).flatMap ptC := by
  induction R generalizing j with
  | nil => cases h
  | cons q R ih =>
    cases j with
    | zero =>
      simp at h
      subst h
      simp [ptC]
    | succ j =>
      rw [List.getElem?_cons_succ] at h
      rw [List.set_cons_succ, List.flatMap_cons, List.flatMap_cons, ← ih j h, show (j + 1) * 2 + 1 = (ptC q).length + (j * 2 + 1) by rw [ptC_len]; omega, set_app]
/-- what the copied ports are, as far as it has come. -/
def FitX (w : World) (A : Option Addr) (B j : Nat) (R : List Rp) (L : List Pt) : Prop := R.length = L.length ∧ ∀ (k : Nat) (r : Rp) (p : Pt), R[k]? = some r → L[k]? = some p → r.name = p.name ∧ (r.m ≤ r.c ∧ (r.A = none → r.c = 0)) ∧ r.c ≤ maxLen ∧ IsB (fun b => A ≠ some ⟨b, 0, none⟩ ∧ (k < j → B ≤ b)) w r.A r.m p.bits
theorem FitX.on {w w' : World} {A : Option Addr} {B j : Nat} {R : List Rp} {L : List Pt} (h : FitX w A B j R L) (hb : Below w.heap.size w w') : FitX w' A B j R L := ⟨h.1, fun k r p hr hp => by
  obtain ⟨h1, h2, h3, h4⟩ := h.2 k r p hr hp
  exact ⟨h1, h2, h3, h4.on hb⟩⟩
theorem FitX.step {w : World} {g B j : Nat} {R : List Rp} {L : List Pt} {r : Rp} {p : Pt} {A4 : Option Addr} {m c4 : Nat} (h : FitX w (some ⟨g, 0, none⟩) B j R L) (hr : R[j]? = some r) (hp : L[j]? = some p) (sw : Sw A4 m c4) (hi : Is w A4 m p.bits) (hlow : ∀ b off, A4 = some ⟨b, off, none⟩ → B ≤ b ∧ b ≠ g) (u : Value) : FitX (w.setCell ⟨g, j * 2 + 1, none⟩ u) (some ⟨g, 0, none⟩) B (j + 1) (R.set j ⟨r.name, A4, m, c4⟩) L := by
  have hg := grown_set w ⟨g, j * 2 + 1, none⟩ u
  refine ⟨by rw [List.length_set]; exact h.1, fun k r' p' hr' hp' => ?_⟩
  rw [List.getElem?_set] at hr'
  by_cases e : j = k
  · subst e
    rw [if_pos rfl, if_pos (List.getElem?_eq_some_iff.1 hr).1] at hr'
    injection hr' with hr'
    rw [hp] at hp'
    injection hp' with hp'
    subst hr' hp'
    obtain ⟨h1, _⟩ := h.2 j r p hr hp
    refine ⟨h1, ⟨sw.1, sw.2.2⟩, sw.2.1, ?_⟩
    refine IsB.far (g := g) ?_ hg (fun b hb => fun e => hb.1 (by rw [e]))
    exact hi.isB fun b off e _ => ⟨fun q => (hlow b off e).2 (by injection q with q; injection q with q; exact q.symm), fun _ => (hlow b off e).1⟩
  · rw [if_neg e] at hr'
    obtain ⟨h1, h2, h3, h4⟩ := h.2 k r' p' hr' hp'
    refine ⟨h1, h2, h3, ?_⟩
    exact (IsB.far (g := g) h4 hg (fun b hb => fun e => hb.1 (by rw [e]))).imp fun b hb => ⟨hb.1, fun hk => hb.2 (by omega)⟩
/-- what stands there, whatever it is. -/
def valAt (w : World) (s i : Nat) : Value := (w.cell? ⟨s, i, none⟩).getD (.bool false)
theorem valAt_of {w : World} {s i : Nat} {v : Value} (h : w.cell? ⟨s, i, none⟩ = some v) : w.cell? ⟨s, i, none⟩ = some (valAt w s i) := by unfold valAt; rw [h]; rfl
theorem stS {w : World} {s0 s1 : Nat} {T : TypeId} {a b c x y z : Value} (z0 : Bx w s0 [a, b, c]) (ZR : Own w s1 T [x, y, z]) : w.cell? ⟨s0, 0, none⟩ = some (a) ∧ w.cell? ⟨s0, 1, none⟩ = some (b) ∧ w.cell? ⟨s0, 2, none⟩ = some (c) ∧ w.cell? ⟨s1, 0, none⟩ = some (valAt w s1 0) ∧ w.cell? ⟨s1, 1, none⟩ = some (valAt w s1 1) ∧ w.cell? ⟨s1, 2, none⟩ = some (valAt w s1 2) ∧ w.frozen? ⟨s1, 0, none⟩ = false ∧ w.frozen? ⟨s1, 1, none⟩ = false ∧ w.frozen? ⟨s1, 2, none⟩ = false :=
  ⟨z0.2 0 _ rfl, z0.2 1 _ rfl, z0.2 2 _ rfl, valAt_of (ZR.cell 0), valAt_of (ZR.cell 1), valAt_of (ZR.cell 2), ZR.free 0, ZR.free 1, ZR.free 2⟩
theorem Bx.apart {w : World} {s s1 : Nat} {vs : List Value} (h : Bx w s vs) (hne : s ≠ s1) (i : Nat) (u : Value) : Bx (w.setCell ⟨s1, i, none⟩ u) s vs := by
  have hg := grown_set w ⟨s1, i, none⟩ u
  exact ⟨Nat.lt_of_lt_of_le h.1 hg.size, fun k v hv => (hg.cell_far ⟨s, k, none⟩ h.1 (fun e => hne (by injection e))).trans (h.2 k v hv)⟩
end Go.Proofs.Ytcehklnonhalhaa
