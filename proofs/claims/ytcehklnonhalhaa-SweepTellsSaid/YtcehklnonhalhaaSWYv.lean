/-
  What the proofs of SweepTells and SweepCones and SweepSame need: Yv.
-/
import Derived.Test.YtcehklnonhalhaaSWYu
import Derived.Test.YtcehklnonhalhaaSWYx
import Derived.Test.YtcehklnonhalhaaSWGt
import Derived.Test.YtcehklnonhalhaaSWLex
import Derived.Test.YtcehklnonhalhaaSWGC
namespace Go.Proofs.Ytcehklnonhalhaa
open Go.RowKit
set_option linter.unusedVariables false
set_option maxRecDepth 4000

theorem wr_B9 : wrongS [⟨9, 0, 0, 0⟩] [] [] = 2 := by decide +kernel
theorem ls_B9 : levelS [⟨9, 0, 0, 0⟩] [] [] = (none, 2) := by
  unfold levelS
  rw [wr_B9]
  rfl
theorem nI_inj : ∀ {A B : List Nat}, nI A = nI B → A = B
  | [], [], _ => rfl
  | [], b :: B, h => by cases h
  | a :: A, [], h => by cases h
  | a :: A, b :: B, h => by
    unfold nI at h
    rw [List.map_cons, List.map_cons] at h
    injection h with h1 h2
    have h1 : ((a : Nat) : Int) = (b : Int) := h1
    rw [nI_inj (A := A) (B := B) h2, show a = b by omega]
attribute [local go_sem ↓] node_eql node_neq
end Go.Proofs.Ytcehklnonhalhaa
