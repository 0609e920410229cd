
/-
  The walk of the reference of layer 3: Value.
-/
import Derived.Test.YtkjbejdeejpdoaaDoorFr
import Derived.Test.YtkjbejdeejpdoaaDoorFe
import Derived.Test.YtkjbejdeejpdoaaDoorRA
namespace Go.Proofs.YtkjbejdeejpdoaaDoor
open Go.RowKit
set_option linter.unusedVariables false

end Go.Proofs.YtkjbejdeejpdoaaDoor
