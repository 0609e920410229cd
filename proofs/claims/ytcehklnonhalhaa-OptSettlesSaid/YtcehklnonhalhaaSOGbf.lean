/-
  What the proofs of OptSweeps and OptSettles need: Gbf.
-/
import Derived.Test.YtcehklnonhalhaaSOGbq
import Derived.Deep.QuietTactic
import Derived.BigQuiet
import Derived.Test.YtcehklnonhalhaaSOGk
namespace Go.Proofs.Ytcehklnonhalhaa
open Go.RowKit
set_option linter.unusedVariables false
set_option maxRecDepth 4000

def nI (L : List Nat) : List Int := L.map fun i : Nat => (i : Int)
theorem ordO_is (d : Option (List Nat)) : ordO d = nI (ordU (fun i => (d.getD []).getD i 0) (d.getD []).length (d.getD []).length) := by
  cases d with
  | none => rfl
  | some d => rfl
end Go.Proofs.Ytcehklnonhalhaa
