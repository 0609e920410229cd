/-
  What the proofs of OptSweeps and OptSettles need: Yv.
-/
import Derived.Test.YtcehklnonhalhaaSOYu
import Derived.Test.YtcehklnonhalhaaSOYy
import Derived.Test.YtcehklnonhalhaaSOGt
import Derived.Test.YtcehklnonhalhaaSOLex
import Derived.Test.YtcehklnonhalhaaSOGC
namespace Go.Proofs.Ytcehklnonhalhaa
open Go.RowKit
set_option linter.unusedVariables false
set_option maxRecDepth 4000

theorem nI_inj : ∀ {A B : List Nat}, nI A = nI B → A = B
  | [], [], _ => rfl
  | [], b :: B, h => by cases h
  | a :: A, [], h => by cases h
  | a :: A, b :: B, h => by
    unfold nI at h
    rw [List.map_cons, List.map_cons] at h
    injection h with h1 h2
    have h1 : ((a : Nat) : Int) = (b : Int) := h1
    rw [nI_inj (A := A) (B := B) h2, show a = b by omega]
attribute [local go_sem ↓] node_eql node_neq
end Go.Proofs.Ytcehklnonhalhaa
