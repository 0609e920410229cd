/-
  What the proofs of SweepTells and SweepCones and SweepSame need: LexT.
-/
import Derived.Test.YtcehklnonhalhaaSWLex
namespace Go.Proofs.Ytcehklnonhalhaa
open Go Go.RowKit
set_option linter.unusedVariables false

section
variable {P : Program} {md : Region.Mode} {ops : Array Oper} {Q : Exit → Act → World → Prop}
theorem contains_cons {k x : Nat} {D : List Nat} (h1 : x ≠ k) (h2 : D.contains x = false) : (k :: D).contains x = false := by
  simp at h2 ⊢
  exact ⟨h1, h2⟩
end
section
variable {P : Program} {ops : Array Oper} {Q : Exit → Act → World → Prop} {K : Act → World → Prop}
end
end Go.Proofs.Ytcehklnonhalhaa
