/-
  What the proofs of OptSame need: Vg.
-/
import Derived.Test.YtcehklnonhalhaaSPVf
import Derived.Test.YtcehklnonhalhaaSPYv
set_option linter.unusedVariables false
namespace Go.Proofs.Ytcehklnonhalhaa
open Go.RowKit
set_option maxRecDepth 4000
attribute [local go_sem ↓] node_eql node_neq
theorem field_a (k a b c : Int) (w : World) : (Instr.field 43 (.agg #[.int .i64 k, .int .i64 a, .int .i64 b, .int .i64 c]) 1).run Try.prog w = .ok (.int .i64 a) w := by kernel_rfl
attribute [local go_sem ↓] field_a
end Go.Proofs.Ytcehklnonhalhaa
