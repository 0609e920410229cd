/-
  What the proofs of OptSweeps and OptSettles need: Vg.
-/
import Derived.Test.YtcehklnonhalhaaSOVf
import Derived.Test.YtcehklnonhalhaaSOYv
namespace Go.Proofs.Ytcehklnonhalhaa
open Go.RowKit
set_option linter.unusedVariables false
set_option maxRecDepth 4000

attribute [local go_sem ↓] node_eql node_neq
theorem field_a (k a b c : Int) (w : World) : (Instr.field 43 (.agg #[.int .i64 k, .int .i64 a, .int .i64 b, .int .i64 c]) 1).run Try.prog w = .ok (.int .i64 a) w := by kernel_rfl
attribute [local go_sem ↓] field_a
end Go.Proofs.Ytcehklnonhalhaa
