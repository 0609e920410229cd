/-
  What the proofs of OptSweeps and OptSettles need: Yy.
-/
import Derived.Test.YtcehklnonhalhaaSOHR
import Derived.Test.YtcehklnonhalhaaSOJB
import Derived.Test.YtcehklnonhalhaaSOYr
import Derived.Test.YtcehklnonhalhaaSOLexG
namespace Go.Proofs.Ytcehklnonhalhaa
open Go.RowKit
set_option linter.unusedVariables false
set_option maxRecDepth 4000

/-- ports of the same names and widths. -/
def Pa (L M : List Pt) : Prop := M.length = L.length ∧ ∀ (j : Nat) (p q : Pt), L[j]? = some p → M[j]? = some q → q.name = p.name ∧ q.bits.length = p.bits.length
theorem Pa.self (L : List Pt) : Pa L L := ⟨rfl, fun j p q h k => by rw [h] at k; injection k with k; rw [k]; exact ⟨rfl, rfl⟩⟩
theorem Pa.map (f : Pt → Pt) (hf : ∀ p, (f p).name = p.name ∧ (f p).bits.length = p.bits.length) (L : List Pt) : Pa L (L.map f) := ⟨List.length_map .., fun j p q h k => by
  rw [List.getElem?_map, h] at k
  injection k with k
  rw [← k]
  exact hf p⟩
end Go.Proofs.Ytcehklnonhalhaa
