/-
  What the proofs of OptSame need: Yv.
-/
import Derived.Test.YtcehklnonhalhaaSPYu
import Derived.Test.YtcehklnonhalhaaSPYx
import Derived.Test.YtcehklnonhalhaaSPGt
import Derived.Test.YtcehklnonhalhaaSPLex
import Derived.Test.YtcehklnonhalhaaSPGC
set_option linter.unusedVariables false
namespace Go.Proofs.Ytcehklnonhalhaa
open Go.RowKit
set_option maxRecDepth 4000
theorem nI_inj : ∀ {A B : List Nat}, nI A = nI B → A = B
 | [], [], _ => rfl
 | [], b :: B, h => by cases h
 | a :: A, [], h => by cases h
 | a :: A, b :: B, h => by
  unfold nI at h
  rw [List.map_cons, List.map_cons] at h
  injection h with h1 h2
  have h1 : ((a : Nat) : Int) = (b : Int) := h1
  rw [nI_inj (A := A) (B := B) h2, show a = b by omega]
attribute [local go_sem ↓] node_eql node_neq
end Go.Proofs.Ytcehklnonhalhaa
