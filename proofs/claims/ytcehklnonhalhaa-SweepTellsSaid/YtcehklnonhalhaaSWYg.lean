/-
  What the proofs of SweepTells and SweepCones and SweepSame need: Yg.
-/
import Derived.Test.YtcehklnonhalhaaSWYf
import Derived.Laws.StructEq
namespace Go.Proofs.Ytcehklnonhalhaa
open Go.RowKit
set_option linter.unusedVariables false
set_option maxRecDepth 4000
attribute [local go_sem ↓] node_eql node_neq

end Go.Proofs.Ytcehklnonhalhaa
