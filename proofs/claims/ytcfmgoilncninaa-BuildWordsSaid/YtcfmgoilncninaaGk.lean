
/-
  net: Levels, Check, greatest, Depth.
-/
import Derived.Test.YtcfmgoilncninaaGj
namespace Go.Proofs.Ytcfmgoilncninaa
open Go.RowKit
set_option linter.unusedVariables false
set_option maxRecDepth 4000

theorem n6ret_int {a b : Int} {k : IntKind} (h : a = b) : Ending.returned (.int k a) = Ending.returned (.int k b) := by rw [h]
def mostS (L : List Int) : Int := L.foldl max 0
theorem ints_len {N : List Nd} {I O : List Pt} {d : Option (List Nat)} {e : Int} (hl : levelS N I O = (d, e)) : (ints d).length ≤ N.length := by
  unfold levelS at hl
  split at hl
  · simp only [Prod.mk.injEq] at hl
    rw [← hl.1]; simp [ints]
  · split at hl
    · rename_i dd hd
      simp only [Prod.mk.injEq] at hl
      rw [← hl.1]
      have := (levS_some hd).1
      simp [ints, this]
    · simp only [Prod.mk.injEq] at hl
      rw [← hl.1]; simp [ints]
end Go.Proofs.Ytcfmgoilncninaa
