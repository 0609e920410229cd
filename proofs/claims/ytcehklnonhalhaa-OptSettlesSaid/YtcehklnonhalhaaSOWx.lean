/-
  What the proofs of OptSweeps and OptSettles need: Wx.
-/
import Derived.Test.YtcehklnonhalhaaSOWk
import Derived.Test.YtcehklnonhalhaaSOLexG
import Derived.Test.YtcehklnonhalhaaSOWl
import Derived.Deep.AppendLies
import Derived.Test.YtcehklnonhalhaaSOWa
import Derived.Test.YtcehklnonhalhaaSOVg
namespace Go.Proofs.Ytcehklnonhalhaa
open Go.RowKit
set_option linter.unusedVariables false
set_option maxRecDepth 4000

theorem sameL_me (L : List Pt) : sameL L L = true := by
  unfold sameL
  rw [beq_self_eq_true, Bool.true_and, List.all_eq_true]
  intro i hi
  have hi := List.mem_range.1 hi
  unfold sameAt
  rw [List.getElem?_eq_getElem hi]
  unfold sameP
  simp
theorem sameS_me (N : List Nd) (I O : List Pt) : sameS N N I I O O = true := by
  unfold sameS
  rw [sameL_me, sameL_me]
  simp
section
variable {An Ai Ao : Option Addr} {nn cn ni ci no co : Nat} {N : List Nd} {I O : List Pt} {w : World}
end
end Go.Proofs.Ytcehklnonhalhaa
