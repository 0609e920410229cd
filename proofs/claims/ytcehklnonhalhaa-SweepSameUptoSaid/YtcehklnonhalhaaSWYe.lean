/-
  What the proofs of SweepTells and SweepCones and SweepSame need: Ye.
-/
import Derived.Test.YtcehklnonhalhaaSWYv
import Derived.Test.YtcehklnonhalhaaSWYw
import Derived.Test.YtcehklnonhalhaaSWGt
import Derived.Test.YtcehklnonhalhaaSWGf
import Derived.Maps.Views
import Derived.Maps.Own
import Derived.Maps.OwnOps
import Derived.Maps.OwnSet
import Derived.WalkSmall
namespace Go.Proofs.Ytcehklnonhalhaa
open Go.RowKit
open Go.Maps (Keyed)
set_option linter.unusedVariables false
set_option maxRecDepth 4000

def kJ (x : Int) : Lit := .int .i64 x
/-- the call's own set of places. -/
def MapS (w : World) (b n : Nat) (D : DataW Unit) : Prop := w.ownsMap Try.prog 3 (plainElem Try.prog 4) b n D
theorem MapS.below {w w' : World} {b n : Nat} {D : DataW Unit} (h : MapS w b n D) (hb : Below w.heap.size w w') : MapS w' b n D := by
  obtain ⟨es, clock, h1, h2⟩ := h
  exact ⟨es, clock, (hb.block b (Array.getElem?_eq_some_iff.1 h1).1).trans h1, h2⟩
theorem wf_j64 {x : Int} (h0 : 0 ≤ x) (h1 : x ≤ 1000000) : (Lit.int .i64 x).wf = true := by
  have e1 : IntKind.i64.min = -9223372036854775808 := rfl
  have e2 : IntKind.i64.max = 9223372036854775807 := rfl
  simp [Lit.wf]
  omega
/-- the map tells of each place whether it was seen. -/
structure Se (V : List Nat) (D : DataW Unit) : Prop where
  nd : V.Nodup
  size : Maps.size D = V.length
  at_ : ∀ m : Nat, D.atKey (kJ m) (.lit (.bool false)) = .lit (.bool (decide (m ∈ V)))
  has : ∀ m : Nat, Maps.has D (kJ m) = decide (m ∈ V)
theorem Se.start : Se [] (.map []) := ⟨List.nodup_nil, rfl, fun m => rfl, fun m => rfl⟩
theorem kJ_ne {a b : Nat} (h : a ≠ b) : kJ a ≠ kJ b := fun e => by
  injection e with _ e
  exact h (by omega)
theorem Se.put {V : List Nat} {D : DataW Unit} (h : Se V D) (hm : Maps.IsMap D) (ht : Maps.Tidy D) {q : Nat} (hq : q ∉ V) : Se (q :: V) (D.put (kJ q) (.lit (.bool true))) where
  nd := List.nodup_cons.2 ⟨hq, h.nd⟩
  size := by
    rw [Maps.size_put ht, h.has q, h.size]
    simp [hq]
  at_ := fun m => by
    by_cases e : m = q
    · subst e
      rw [Maps.atKey_put_same hm (by trivial)]
      simp
    · rw [Maps.atKey_put_other (kJ_ne e), h.at_ m]
      simp [e]
  has := fun m => by
    by_cases e : m = q
    · subst e
      rw [Maps.has_put_same hm (by trivial)]
      simp
    · rw [Maps.has_put_other (kJ_ne e), h.has m]
      simp [e]
/-- a row is no map. -/
theorem map_ne {w : World} {B b n m : Nat} {e : TypeId} {s : Nat} {D : DataW Unit} {v : Value} {xs : List Value} (h : w.ownsRow B e s v n xs) (k : MapS w b m D) : some b ≠ v.ownBlock := fun q => by
  rcases h.2 with ⟨e1, _⟩ | ⟨g, cap, cur, e1, _, hg, _⟩
  · rw [e1] at q
    cases q
  · rw [e1] at q
    injection q with q
    obtain ⟨es, clock, hb, _⟩ := k
    rw [q, hg] at hb
    cases hb
theorem snocI (T : List Int) : T = [] ∨ ∃ V q, T = V ++ [q] := by
  rcases List.eq_nil_or_concat T with h | ⟨V, q, h⟩
  · exact .inl h
  · exact .inr ⟨V, q, by simpa using h⟩
def lenW : Value → Nat
  | .slice _ n _ => n
  | _ => 0
theorem row_len {w : World} {B n : Nat} {e : TypeId} {s : Nat} {v : Value} {xs : List Value} (h : w.ownsRow B e s v n xs) : lenW v = n := by
  obtain ⟨A, c, rfl, _⟩ := row_at h
  rfl
/-- the last of a row. -/
theorem row_last {w : World} {B : Nat} {v : Value} {V : List Int} {q : Int} (h : w.ownsRow B 3 1 v (V ++ [q]).length ((V ++ [q]).flatMap inC)) : ∃ b c, v = .slice (some ⟨b, 0, none⟩) (V.length + 1) c ∧ V.length + 1 ≤ c ∧ w.cell? ⟨b, V.length, none⟩ = some (.int .i64 q) ∧ w.ownsRow B 3 1 (.slice (some ⟨b, 0, none⟩) V.length c) V.length (V.flatMap inC) := by
  have hl : (V.flatMap inC).length = V.length * 1 := flat_len inC 1 inC_len V
  rw [List.length_append, List.length_singleton, List.flatMap_append] at h
  obtain ⟨A, c, rfl, sw, _⟩ := row_at h
  rcases row_own h with ⟨_, e, _⟩ | ⟨b, rfl, _, _⟩
  · omega
  have hc := h.cellAt V.length (by omega)
  rw [List.getElem?_append_right (by omega)] at hc
  have e0 : V.length - (V.flatMap inC).length = 0 := by omega
  rw [e0] at hc
  exact ⟨b, c, rfl, sw.1, hc, ownsRow_pop hl h⟩
end Go.Proofs.Ytcehklnonhalhaa
