
/-
  net: Counts.
-/
import Derived.Test.YtcfmgoilncninaaGr
namespace Go.Proofs.Ytcfmgoilncninaa
open Go.RowKit
set_option linter.unusedVariables false
set_option maxRecDepth 4000

/-- how many nodes there are of a kind. -/
def cntS (N : List Nd) (u : Nat) : Nat := N.countP fun x => decide (x.k = (u : Int))
theorem cnt_le (N : List Nd) (u : Nat) : cntS N u ≤ N.length := List.countP_le_length
theorem cnt_succ {N : List Nd} {j : Nat} {x : Nd} (hx : N[j]? = some x) (u : Nat) : cntS (N.take (j + 1)) u = cntS (N.take j) u + if x.k = (u : Int) then 1 else 0 := by
  unfold cntS
  rw [List.take_add_one, hx, List.countP_append]
  simp [List.countP_cons]
theorem rg8 (F : Nat → Nat) : rg F 8 = [(.int .i64 (F 0 : Nat)), (.int .i64 (F 1 : Nat)), (.int .i64 (F 2 : Nat)), (.int .i64 (F 3 : Nat)), (.int .i64 (F 4 : Nat)), (.int .i64 (F 5 : Nat)), (.int .i64 (F 6 : Nat)), (.int .i64 (F 7 : Nat))] := rfl
end Go.Proofs.Ytcfmgoilncninaa
