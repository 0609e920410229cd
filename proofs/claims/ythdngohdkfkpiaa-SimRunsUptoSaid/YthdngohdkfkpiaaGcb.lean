
/-
  Layer 6: the laws' awake is true.
-/
import Derived.Test.YthdngohdkfkpiaaGca
import Derived.Test.YthdngohdkfkpiaaGt
namespace Go.Proofs.Ythdngohdkfkpiaa
open Go.RowKit
set_option linter.unusedVariables false
set_option maxRecDepth 4000

end Go.Proofs.Ythdngohdkfkpiaa
