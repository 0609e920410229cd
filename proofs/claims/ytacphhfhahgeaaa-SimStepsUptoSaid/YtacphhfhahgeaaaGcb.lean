
/-
  Layer 6: the laws' awake is true.
-/
import Derived.Test.YtacphhfhahgeaaaGca
import Derived.Test.YtacphhfhahgeaaaGt
namespace Go.Proofs.Ytacphhfhahgeaaa
open Go.RowKit
set_option linter.unusedVariables false
set_option maxRecDepth 4000

end Go.Proofs.Ytacphhfhahgeaaa
