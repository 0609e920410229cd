
/-
  The reference of layer 6: times, how often a place comes in.
-/
import Derived.Test.YtcfmgoilncninaaGx
namespace Go.Proofs.Ytcfmgoilncninaa
open Go.RowKit
set_option linter.unusedVariables false
set_option maxRecDepth 4000

theorem count_snoc {L : List Int} {l : Nat} {x a : Int} (h : L[l]? = some x) (P : List Int) : (P ++ L.take (l + 1)).count a = (P ++ L.take l).count a + if x = a then 1 else 0 := by
  rw [List.take_add_one, h, ← List.append_assoc, List.count_append]
  congr 1
  simp [List.count_cons]
end Go.Proofs.Ytcfmgoilncninaa
