/-
  No cell of these rows narrows 'for every input' (looked for: loops, veiled, ifaces, maps, wideKeys, modest, calm, conditions, laid).
  DERIVED. THE GIVEN ROWS OF THIS SEAT. 4 by the template 'for every input the law returns true; each argument reads behind the call as it read before'; 0 by the template 'total and deterministic' (their statements: YtcmdfkmjbfppgaaTotals.lean).
  GIVEN WITH THE SEED: the statements are not yours to turn. If you find one false, say at which input.
  Laid BY PROGRAM, IN A SANDBOX (cutbox-rows.mjs): the forced cells as the released guide's own fill.sh prints them over the translation 11cfa1e50234c858… (all of the seat's roots in one cut). By AI agents, Wed Nov 11 2026. No macro, syntax, notation, axiom, sorry.
-/
import Derived.Test.YtcmdfkmjbfppgaaChecked
import GoSem.Claim
import GoSem.ClaimJoined
import GoSem.ClaimMapViews
import Derived.JoinedTies
import Derived.KernelRfl
namespace Go.Proofs.Ytcmdfkmjbfppgaa
/- THE CELL 'sum', in the pinned program and in every row, IS THE sha256 OF THE DUMP (.gsa) THAT YtcmdfkmjbfppgaaProg.lean LOADS. Nothing in Lean hashes anything: it is a label: what it is worth is what the hold of that sum in a sandbox is worth. -/
noncomputable def Try.pinned : Pinned := { name := "ytcmdfkmjbfppgaa", sum := "11cfa1e50234c858155339348541ddb2233adcefcb87bfd607046b5beb7c1697", checked := Try.checked }
namespace Rows
def none {H : Type} : Left H := { results := [], args := [] }

/-- 'slipsticklaw06.NetTells': WHATEVER THE INPUT: true; the input reads as it did. -/
def netTellsSpec : ChangeSpec := { name := "netTells", fn := fun _ => fun
  | [d] => { results := [.lit (.bool true)], args := [d] }
  | _ => none }
def netTellsRow : OpenClaim := { program := "ytcmdfkmjbfppgaa", sum := "11cfa1e50234c858155339348541ddb2233adcefcb87bfd607046b5beb7c1697", func := "slipstick/slipsticklaw06.NetTells", spec := "netTells", unfollowed := true, recurses := true, apart := false }
def NetTellsSaid : Prop := netTellsRow.holds Try.pinned (OpenSpec.ofChange netTellsSpec)

/-- ITS FALSE NEIGHBOUR: 'it returns false'. Refute it at one input. -/
def netTellsWrong : ChangeSpec := { name := "netTells", fn := fun _ => fun
  | [d] => { results := [.lit (.bool false)], args := [d] }
  | _ => none }
def NetTellsWrongFalsely : Prop := netTellsRow.holds Try.pinned (OpenSpec.ofChange netTellsWrong)

/-- 'slipsticklaw06.NetNodes': WHATEVER THE INPUT: true; the input reads as it did. -/
def netNodesSpec : ChangeSpec := { name := "netNodes", fn := fun _ => fun
  | [d1, d2, d3, d4] => { results := [.lit (.bool true)], args := [d1, d2, d3, d4] }
  | _ => none }
def netNodesRow : OpenClaim := { program := "ytcmdfkmjbfppgaa", sum := "11cfa1e50234c858155339348541ddb2233adcefcb87bfd607046b5beb7c1697", func := "slipstick/slipsticklaw06.NetNodes", spec := "netNodes", unfollowed := true, recurses := true, apart := false }
def NetNodesSaid : Prop := netNodesRow.holds Try.pinned (OpenSpec.ofChange netNodesSpec)

/-- ITS FALSE NEIGHBOUR: 'it returns false'. Refute it at one input. -/
def netNodesWrong : ChangeSpec := { name := "netNodes", fn := fun _ => fun
  | [d1, d2, d3, d4] => { results := [.lit (.bool false)], args := [d1, d2, d3, d4] }
  | _ => none }
def NetNodesWrongFalsely : Prop := netNodesRow.holds Try.pinned (OpenSpec.ofChange netNodesWrong)

/-- 'slipsticklaw06.NetOrders': WHATEVER THE INPUT: true; the input reads as it did. -/
def netOrdersSpec : ChangeSpec := { name := "netOrders", fn := fun _ => fun
  | [d] => { results := [.lit (.bool true)], args := [d] }
  | _ => none }
def netOrdersRow : OpenClaim := { program := "ytcmdfkmjbfppgaa", sum := "11cfa1e50234c858155339348541ddb2233adcefcb87bfd607046b5beb7c1697", func := "slipstick/slipsticklaw06.NetOrders", spec := "netOrders", unfollowed := true, recurses := true, apart := false }
def NetOrdersSaid : Prop := netOrdersRow.holds Try.pinned (OpenSpec.ofChange netOrdersSpec)

/-- ITS FALSE NEIGHBOUR: 'it returns false'. Refute it at one input. -/
def netOrdersWrong : ChangeSpec := { name := "netOrders", fn := fun _ => fun
  | [d] => { results := [.lit (.bool false)], args := [d] }
  | _ => none }
def NetOrdersWrongFalsely : Prop := netOrdersRow.holds Try.pinned (OpenSpec.ofChange netOrdersWrong)

/-- 'slipsticklaw06.NetGrows': WHATEVER THE INPUT: true; the input reads as it did. -/
def netGrowsSpec : ChangeSpec := { name := "netGrows", fn := fun _ => fun
  | [d1, d2, d3, d4, d5] => { results := [.lit (.bool true)], args := [d1, d2, d3, d4, d5] }
  | _ => none }
def netGrowsRow : OpenClaim := { program := "ytcmdfkmjbfppgaa", sum := "11cfa1e50234c858155339348541ddb2233adcefcb87bfd607046b5beb7c1697", func := "slipstick/slipsticklaw06.NetGrows", spec := "netGrows", unfollowed := true, recurses := true, apart := false }
def NetGrowsSaid : Prop := netGrowsRow.holds Try.pinned (OpenSpec.ofChange netGrowsSpec)

/-- ITS FALSE NEIGHBOUR: 'it returns false'. Refute it at one input. -/
def netGrowsWrong : ChangeSpec := { name := "netGrows", fn := fun _ => fun
  | [d1, d2, d3, d4, d5] => { results := [.lit (.bool false)], args := [d1, d2, d3, d4, d5] }
  | _ => none }
def NetGrowsWrongFalsely : Prop := netGrowsRow.holds Try.pinned (OpenSpec.ofChange netGrowsWrong)

/- THE SECOND FORM. 'bulk': how many values and letters a reading holds, each counted each time it is reached (what is shared counts as often as it is met; a slice's spare places count too). A statement '..UptoSaid' is the law's where the arguments, and the package variables that the reading takes, are together of bulk at most 1048576: NARROWER than '..Said'. Prove '..Said' where nothing that the law and all that it calls make is longer than what came in: it says more and counts as full. Else prove '..UptoSaid'. A law counts once. -/
mutual
def uptoBulk {H : Type} : DataW H → Nat
  | .lit (.string bytes) => bytes.length + 1
  | .lit _ => 1
  | .nil => 1
  | .ptr d => uptoBulk d + 1
  | .slice elems spare => uptoBulkAll elems + uptoBulkAll spare + 1
  | .agg parts => uptoBulkAll parts + 1
  | .iface _ d => uptoBulk d + 1
  | .map entries => uptoBulkEntries entries + 1
  | .held _ => 1
def uptoBulkAll {H : Type} : List (DataW H) → Nat
  | [] => 0
  | d :: r => uptoBulk d + uptoBulkAll r
def uptoBulkEntries {H : Type} : List (Lit × DataW H) → Nat
  | [] => 0
  | x :: r => uptoBulkEntry x + uptoBulkEntries r
def uptoBulkEntry {H : Type} : Lit × DataW H → Nat
  | (.string bytes, d) => bytes.length + uptoBulk d + 1
  | (_, d) => uptoBulk d + 1
 end
def uptoSmall : (H : Type) → List (DataW H) → Bool := fun _ ds => decide (uptoBulkAll ds ≤ 1048576)
def OpenSpec.upto (s : _root_.Go.ChangeSpec) : _root_.Go.OpenSpec := { _root_.Go.OpenSpec.ofChange s with cond := some uptoSmall }

/-- 'slipsticklaw06.NetTells', WHERE WHAT IT READS IS OF BULK AT MOST 1048576: true; the input reads as it did. -/
def netTellsUptoRow : OpenClaim := { program := "ytcmdfkmjbfppgaa", sum := "11cfa1e50234c858155339348541ddb2233adcefcb87bfd607046b5beb7c1697", func := "slipstick/slipsticklaw06.NetTells", spec := "netTells", unfollowed := true, recurses := true, apart := false, narrowed := true }
def NetTellsUptoSaid : Prop := netTellsUptoRow.holds Try.pinned (OpenSpec.upto netTellsSpec)

/-- 'slipsticklaw06.NetNodes', WHERE WHAT IT READS IS OF BULK AT MOST 1048576: true; the input reads as it did. -/
def netNodesUptoRow : OpenClaim := { program := "ytcmdfkmjbfppgaa", sum := "11cfa1e50234c858155339348541ddb2233adcefcb87bfd607046b5beb7c1697", func := "slipstick/slipsticklaw06.NetNodes", spec := "netNodes", unfollowed := true, recurses := true, apart := false, narrowed := true }
def NetNodesUptoSaid : Prop := netNodesUptoRow.holds Try.pinned (OpenSpec.upto netNodesSpec)

/-- 'slipsticklaw06.NetOrders', WHERE WHAT IT READS IS OF BULK AT MOST 1048576: true; the input reads as it did. -/
def netOrdersUptoRow : OpenClaim := { program := "ytcmdfkmjbfppgaa", sum := "11cfa1e50234c858155339348541ddb2233adcefcb87bfd607046b5beb7c1697", func := "slipstick/slipsticklaw06.NetOrders", spec := "netOrders", unfollowed := true, recurses := true, apart := false, narrowed := true }
def NetOrdersUptoSaid : Prop := netOrdersUptoRow.holds Try.pinned (OpenSpec.upto netOrdersSpec)

/-- 'slipsticklaw06.NetGrows', WHERE WHAT IT READS IS OF BULK AT MOST 1048576: true; the input reads as it did. -/
def netGrowsUptoRow : OpenClaim := { program := "ytcmdfkmjbfppgaa", sum := "11cfa1e50234c858155339348541ddb2233adcefcb87bfd607046b5beb7c1697", func := "slipstick/slipsticklaw06.NetGrows", spec := "netGrows", unfollowed := true, recurses := true, apart := false, narrowed := true }
def NetGrowsUptoSaid : Prop := netGrowsUptoRow.holds Try.pinned (OpenSpec.upto netGrowsSpec)

end Rows
end Go.Proofs.Ytcmdfkmjbfppgaa
