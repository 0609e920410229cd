/-
  What the proofs of SweepTells and SweepCones and SweepSame need: Yu.
-/
import Derived.Test.YtcehklnonhalhaaSWYq
import Derived.Test.YtcehklnonhalhaaSWYw
namespace Go.Proofs.Ytcehklnonhalhaa
open Go.RowKit
set_option linter.unusedVariables false
set_option maxRecDepth 4000

/-- the first j changed by f. -/
def mixF {α : Type} (f : α → α) (j : Nat) (L : List α) : List α := (L.take j).map f ++ L.drop j
theorem mix_len {α : Type} (f : α → α) (j : Nat) (L : List α) : (mixF f j L).length = L.length := by unfold mixF; simp; omega
theorem mix_0 {α : Type} (f : α → α) (L : List α) : mixF f 0 L = L := by unfold mixF; simp
theorem mix_all {α : Type} (f : α → α) (L : List α) : mixF f L.length L = L.map f := by unfold mixF; simp
theorem mix_at {α : Type} (f : α → α) {j : Nat} {L : List α} (h : j < L.length) : (mixF f j L)[j]? = L[j]? := by
  unfold mixF
  rw [List.getElem?_append_right (by simp; omega)]
  simp
  congr 1
  omega
theorem mix_next {α : Type} (f : α → α) {j : Nat} {L : List α} {x : α} (h : L[j]? = some x) : mixF f (j + 1) L = (mixF f j L).set j (f x) := by
  obtain ⟨hj, hx⟩ := List.getElem?_eq_some_iff.1 h
  unfold mixF
  rw [List.set_append_right _ _ (by simp; omega), List.take_add_one, h]
  have : j - ((L.take j).map f).length = 0 := by simp; omega
  rw [this, List.drop_eq_getElem_cons hj, List.set_cons_zero, List.map_append]
  simp
theorem GD.put {w : World} {base n : Nat} {R : List Rp} {L : List Pt} (h : GD w base n R L) {j g i : Nat} {r : Rp} {p : Pt} (hj : j < n) (hr : R[j]? = some r) (hp : L[j]? = some p) (hA : r.A = some ⟨g, 0, none⟩) (x : Int) : GD (w.setCell ⟨g, i, none⟩ (.int .i64 x)) base n R (L.set j ⟨p.name, p.bits.set i x⟩) := fun k r' p' hk hr' hp' => by
  obtain ⟨j1, j2⟩ := h j r p hj hr hp
  have own : (Value.slice r.A r.m r.c).ownBlock = some g := by rw [hA]; rfl
  by_cases e : j = k
  · subst e
    rw [hr] at hr'
    injection hr' with hr'
    subst hr'
    rw [List.getElem?_set_self (List.getElem?_eq_some_iff.1 hp).1] at hp'
    injection hp' with hp'
    subst hp'
    refine ⟨?_, j2⟩
    rw [hA] at j1 ⊢
    have := (j1.stored i (.int .i64 x)).1
    rw [flat_putI] at this
    exact this
  · rw [List.getElem?_set_ne e] at hp'
    obtain ⟨k1, k2⟩ := h k r' p' hk hr' hp'
    refine ⟨k1.kept (grown_set _ _ _) (.inr fun q => ?_), k2⟩
    rcases Nat.lt_or_gt_of_ne e with e | e
    · exact j2 k r' e hk hr' g own q
    · exact k2 j r e hj hr g q own
/-- a store to a block of another type. -/
theorem GD.other {w : World} {base n g : Nat} {R : List Rp} {L : List Pt} {cur : Array Value} {T : TypeId} {f : Nat × Nat} (h : GD w base n R L) (hg : w.heap[g]? = some (.cells cur T f)) (hT : 3 ≠ T) (o : Nat) (u : Value) : GD (w.setCell ⟨g, o, none⟩ u) base n R L := fun k r p hk hr hp => by
  obtain ⟨h1, h2⟩ := h k r p hk hr hp
  refine ⟨h1.kept (grown_set _ _ _) ?_, h2⟩
  rcases h1.2 with ⟨e, _⟩ | ⟨g', cap, cur', e, _, hg', _⟩
  · left; rw [e]; rfl
  · right
    rw [e]
    intro q
    unfold Value.ownBlock at q
    injection q with q
    exact type_ne hg' hg hT q
/-- a row of another type. -/
theorem row_other {w : World} {base size n g : Nat} {t T : TypeId} {v : Value} {xs : List Value} {cur : Array Value} {f : Nat × Nat} (h : w.ownsRow base t size v n xs) (hg : w.heap[g]? = some (.cells cur T f)) (hT : t ≠ T) (o : Nat) (u : Value) : (w.setCell ⟨g, o, none⟩ u).ownsRow base t size v n xs := by
  refine h.kept (grown_set _ _ _) ?_
  rcases h.2 with ⟨e, _⟩ | ⟨g', cap, cur', e, _, hg', _⟩
  · left; rw [e]; rfl
  · right
    rw [e]
    intro q
    unfold Value.ownBlock at q
    injection q with q
    exact type_ne hg' hg hT q
/-- ports whose bits lie so. -/
theorem GD.ps {w : World} {base n c : Nat} {A : Option Addr} {R : List Rp} {L : List Pt} (h : GD w base n R L) (hrow : w.ownsRow base 41 2 (.slice A n c) n (R.flatMap ptC)) (hRl : R.length = n) (hLl : L.length = n) (hnm : ∀ (k : Nat) (r : Rp) (p : Pt), R[k]? = some r → L[k]? = some p → r.name = p.name) : Ps w A n L := ⟨hLl, fun k p hp => by
  have hk : k < n := by rw [← hLl]; exact (List.getElem?_eq_some_iff.1 hp).1
  obtain ⟨r, hr⟩ := look_ex hRl hk
  obtain ⟨A0, c0, q0, _, _, hc0⟩ := row_at hrow
  injection q0 with qa qb qc
  subst qa qc
  obtain ⟨g, eA, hg, k1⟩ := hc0 (k * 2 + 0) (.string r.name) (by rw [flat_at ptC 2 ptC_len R k 0 (by omega), hr]; rfl)
  obtain ⟨g', eA', _, k2⟩ := hc0 (k * 2 + 1) (.slice r.A r.m r.c) (by rw [flat_at ptC 2 ptC_len R k 1 (by omega), hr]; rfl)
  subst eA
  injection eA' with eA'
  injection eA' with eA'
  subst eA'
  obtain ⟨A2, c2, e2, sw, _, hi⟩ := row_is (h k r p hk hr hp).1
  injection e2 with ea _ ec
  subst ea ec
  rw [hnm k r p hr hp] at k1
  exact ⟨g, 0, r.A, r.m, r.c, rfl, hg, by rw [Nat.zero_add]; exact k1, by rw [Nat.zero_add]; exact k2, ⟨sw.1, sw.2.2⟩, sw.2.1, hi⟩⟩
end Go.Proofs.Ytcehklnonhalhaa
