/-
  What the proofs of OptSweeps and OptSettles need: Ye.
-/
import Derived.Test.YtcehklnonhalhaaSOYv
import Derived.Test.YtcehklnonhalhaaSOYw
import Derived.Test.YtcehklnonhalhaaSOGt
import Derived.Test.YtcehklnonhalhaaSOGf
import Derived.Maps.Views
import Derived.Maps.Own
import Derived.Maps.OwnOps
import Derived.Maps.OwnSet
import Derived.WalkSmall
namespace Go.Proofs.Ytcehklnonhalhaa
open Go.RowKit
open Go.Maps (Keyed)
set_option linter.unusedVariables false
set_option maxRecDepth 4000

theorem snocI (T : List Int) : T = [] ∨ ∃ V q, T = V ++ [q] := by
  rcases List.eq_nil_or_concat T with h | ⟨V, q, h⟩
  · exact .inl h
  · exact .inr ⟨V, q, by simpa using h⟩
def lenW : Value → Nat
  | .slice _ n _ => n
  | _ => 0
theorem row_len {w : World} {B n : Nat} {e : TypeId} {s : Nat} {v : Value} {xs : List Value} (h : w.ownsRow B e s v n xs) : lenW v = n := by
  obtain ⟨A, c, rfl, _⟩ := row_at h
  rfl
/-- the last of a row. -/
theorem row_last {w : World} {B : Nat} {v : Value} {V : List Int} {q : Int} (h : w.ownsRow B 3 1 v (V ++ [q]).length ((V ++ [q]).flatMap inC)) : ∃ b c, v = .slice (some ⟨b, 0, none⟩) (V.length + 1) c ∧ V.length + 1 ≤ c ∧ w.cell? ⟨b, V.length, none⟩ = some (.int .i64 q) ∧ w.ownsRow B 3 1 (.slice (some ⟨b, 0, none⟩) V.length c) V.length (V.flatMap inC) := by
  have hl : (V.flatMap inC).length = V.length * 1 := flat_len inC 1 inC_len V
  rw [List.length_append, List.length_singleton, List.flatMap_append] at h
  obtain ⟨A, c, rfl, sw, _⟩ := row_at h
  rcases row_own h with ⟨_, e, _⟩ | ⟨b, rfl, _, _⟩
  · omega
  have hc := h.cellAt V.length (by omega)
  rw [List.getElem?_append_right (by omega)] at hc
  have e0 : V.length - (V.flatMap inC).length = 0 := by omega
  rw [e0] at hc
  exact ⟨b, c, rfl, sw.1, hc, ownsRow_pop hl h⟩
end Go.Proofs.Ytcehklnonhalhaa
