/-
  No cell of these rows narrows 'for every input' (looked for: loops, veiled, ifaces, maps, wideKeys, modest, calm, conditions, laid).
  DERIVED. THE GIVEN ROWS OF THIS SEAT. 4 by the template 'for every input the law returns true; each argument reads behind the call as it read before'; 0 by the template 'total and deterministic' (their statements: YthdngohdkfkpiaaTotals.lean).
  GIVEN WITH THE SEED: the statements are not yours to turn. If you find one false, say at which input.
  Laid BY PROGRAM, IN A SANDBOX (cutbox-rows.mjs): the forced cells as the released guide's own fill.sh prints them over the translation 36d65b1c6264a2c9… (all of the seat's roots in one cut). By AI agents, Wed Nov 11 2026. No macro, syntax, notation, axiom, sorry.
-/
import Derived.Test.YthdngohdkfkpiaaChecked
import GoSem.Claim
import GoSem.ClaimJoined
import GoSem.ClaimMapViews
import Derived.JoinedTies
import Derived.KernelRfl
namespace Go.Proofs.Ythdngohdkfkpiaa
/- THE CELL 'sum', in the pinned program and in every row, IS THE sha256 OF THE DUMP (.gsa) THAT YthdngohdkfkpiaaProg.lean LOADS. Nothing in Lean hashes anything: it is a label: what it is worth is what the hold of that sum in a sandbox is worth. -/
noncomputable def Try.pinned : Pinned := { name := "ythdngohdkfkpiaa", sum := "36d65b1c6264a2c98f10a4f434374c56937eba55ee5339904c4aed40133fa7ff", checked := Try.checked }
namespace Rows
def none {H : Type} : Left H := { results := [], args := [] }

/-- 'slipsticklaw07.SimRuns': WHATEVER THE INPUT: true; the input reads as it did. -/
def simRunsSpec : ChangeSpec := { name := "simRuns", fn := fun _ => fun
  | [d1, d2] => { results := [.lit (.bool true)], args := [d1, d2] }
  | _ => none }
def simRunsRow : OpenClaim := { program := "ythdngohdkfkpiaa", sum := "36d65b1c6264a2c98f10a4f434374c56937eba55ee5339904c4aed40133fa7ff", func := "slipstick/slipsticklaw07.SimRuns", spec := "simRuns", unfollowed := true, recurses := true, apart := false }
def SimRunsSaid : Prop := simRunsRow.holds Try.pinned (OpenSpec.ofChange simRunsSpec)

/-- ITS FALSE NEIGHBOUR: 'it returns false'. Refute it at one input. -/
def simRunsWrong : ChangeSpec := { name := "simRuns", fn := fun _ => fun
  | [d1, d2] => { results := [.lit (.bool false)], args := [d1, d2] }
  | _ => none }
def SimRunsWrongFalsely : Prop := simRunsRow.holds Try.pinned (OpenSpec.ofChange simRunsWrong)

/-- 'slipsticklaw07.SimSteps': WHATEVER THE INPUT: true; the input reads as it did. -/
def simStepsSpec : ChangeSpec := { name := "simSteps", fn := fun _ => fun
  | [d1, d2, d3] => { results := [.lit (.bool true)], args := [d1, d2, d3] }
  | _ => none }
def simStepsRow : OpenClaim := { program := "ythdngohdkfkpiaa", sum := "36d65b1c6264a2c98f10a4f434374c56937eba55ee5339904c4aed40133fa7ff", func := "slipstick/slipsticklaw07.SimSteps", spec := "simSteps", unfollowed := true, recurses := true, apart := false }
def SimStepsSaid : Prop := simStepsRow.holds Try.pinned (OpenSpec.ofChange simStepsSpec)

/-- ITS FALSE NEIGHBOUR: 'it returns false'. Refute it at one input. -/
def simStepsWrong : ChangeSpec := { name := "simSteps", fn := fun _ => fun
  | [d1, d2, d3] => { results := [.lit (.bool false)], args := [d1, d2, d3] }
  | _ => none }
def SimStepsWrongFalsely : Prop := simStepsRow.holds Try.pinned (OpenSpec.ofChange simStepsWrong)

/-- 'slipsticklaw07.SimAgain': WHATEVER THE INPUT: true; the input reads as it did. -/
def simAgainSpec : ChangeSpec := { name := "simAgain", fn := fun _ => fun
  | [d1, d2] => { results := [.lit (.bool true)], args := [d1, d2] }
  | _ => none }
def simAgainRow : OpenClaim := { program := "ythdngohdkfkpiaa", sum := "36d65b1c6264a2c98f10a4f434374c56937eba55ee5339904c4aed40133fa7ff", func := "slipstick/slipsticklaw07.SimAgain", spec := "simAgain", unfollowed := true, recurses := true, apart := false }
def SimAgainSaid : Prop := simAgainRow.holds Try.pinned (OpenSpec.ofChange simAgainSpec)

/-- ITS FALSE NEIGHBOUR: 'it returns false'. Refute it at one input. -/
def simAgainWrong : ChangeSpec := { name := "simAgain", fn := fun _ => fun
  | [d1, d2] => { results := [.lit (.bool false)], args := [d1, d2] }
  | _ => none }
def SimAgainWrongFalsely : Prop := simAgainRow.holds Try.pinned (OpenSpec.ofChange simAgainWrong)

/-- 'slipsticklaw07.SimWhole': WHATEVER THE INPUT: true; the input reads as it did. -/
def simWholeSpec : ChangeSpec := { name := "simWhole", fn := fun _ => fun
  | [d1, d2, d3] => { results := [.lit (.bool true)], args := [d1, d2, d3] }
  | _ => none }
def simWholeRow : OpenClaim := { program := "ythdngohdkfkpiaa", sum := "36d65b1c6264a2c98f10a4f434374c56937eba55ee5339904c4aed40133fa7ff", func := "slipstick/slipsticklaw07.SimWhole", spec := "simWhole", unfollowed := true, recurses := true, apart := false }
def SimWholeSaid : Prop := simWholeRow.holds Try.pinned (OpenSpec.ofChange simWholeSpec)

/-- ITS FALSE NEIGHBOUR: 'it returns false'. Refute it at one input. -/
def simWholeWrong : ChangeSpec := { name := "simWhole", fn := fun _ => fun
  | [d1, d2, d3] => { results := [.lit (.bool false)], args := [d1, d2, d3] }
  | _ => none }
def SimWholeWrongFalsely : Prop := simWholeRow.holds Try.pinned (OpenSpec.ofChange simWholeWrong)

/- THE SECOND FORM. 'bulk': how many values and letters a reading holds, each counted each time it is reached (what is shared counts as often as it is met; a slice's spare places count too). A statement '..UptoSaid' is the law's where the arguments, and the package variables that the reading takes, are together of bulk at most 1048576: NARROWER than '..Said'. Prove '..Said' where nothing that the law and all that it calls make is longer than what came in: it says more and counts as full. Else prove '..UptoSaid'. A law counts once. -/
mutual
def uptoBulk {H : Type} : DataW H → Nat
  | .lit (.string bytes) => bytes.length + 1
  | .lit _ => 1
  | .nil => 1
  | .ptr d => uptoBulk d + 1
  | .slice elems spare => uptoBulkAll elems + uptoBulkAll spare + 1
  | .agg parts => uptoBulkAll parts + 1
  | .iface _ d => uptoBulk d + 1
  | .map entries => uptoBulkEntries entries + 1
  | .held _ => 1
def uptoBulkAll {H : Type} : List (DataW H) → Nat
  | [] => 0
  | d :: r => uptoBulk d + uptoBulkAll r
def uptoBulkEntries {H : Type} : List (Lit × DataW H) → Nat
  | [] => 0
  | x :: r => uptoBulkEntry x + uptoBulkEntries r
def uptoBulkEntry {H : Type} : Lit × DataW H → Nat
  | (.string bytes, d) => bytes.length + uptoBulk d + 1
  | (_, d) => uptoBulk d + 1
 end
def uptoSmall : (H : Type) → List (DataW H) → Bool := fun _ ds => decide (uptoBulkAll ds ≤ 1048576)
def OpenSpec.upto (s : _root_.Go.ChangeSpec) : _root_.Go.OpenSpec := { _root_.Go.OpenSpec.ofChange s with cond := some uptoSmall }

/-- 'slipsticklaw07.SimRuns', WHERE WHAT IT READS IS OF BULK AT MOST 1048576: true; the input reads as it did. -/
def simRunsUptoRow : OpenClaim := { program := "ythdngohdkfkpiaa", sum := "36d65b1c6264a2c98f10a4f434374c56937eba55ee5339904c4aed40133fa7ff", func := "slipstick/slipsticklaw07.SimRuns", spec := "simRuns", unfollowed := true, recurses := true, apart := false, narrowed := true }
def SimRunsUptoSaid : Prop := simRunsUptoRow.holds Try.pinned (OpenSpec.upto simRunsSpec)

/-- 'slipsticklaw07.SimSteps', WHERE WHAT IT READS IS OF BULK AT MOST 1048576: true; the input reads as it did. -/
def simStepsUptoRow : OpenClaim := { program := "ythdngohdkfkpiaa", sum := "36d65b1c6264a2c98f10a4f434374c56937eba55ee5339904c4aed40133fa7ff", func := "slipstick/slipsticklaw07.SimSteps", spec := "simSteps", unfollowed := true, recurses := true, apart := false, narrowed := true }
def SimStepsUptoSaid : Prop := simStepsUptoRow.holds Try.pinned (OpenSpec.upto simStepsSpec)

/-- 'slipsticklaw07.SimAgain', WHERE WHAT IT READS IS OF BULK AT MOST 1048576: true; the input reads as it did. -/
def simAgainUptoRow : OpenClaim := { program := "ythdngohdkfkpiaa", sum := "36d65b1c6264a2c98f10a4f434374c56937eba55ee5339904c4aed40133fa7ff", func := "slipstick/slipsticklaw07.SimAgain", spec := "simAgain", unfollowed := true, recurses := true, apart := false, narrowed := true }
def SimAgainUptoSaid : Prop := simAgainUptoRow.holds Try.pinned (OpenSpec.upto simAgainSpec)

/-- 'slipsticklaw07.SimWhole', WHERE WHAT IT READS IS OF BULK AT MOST 1048576: true; the input reads as it did. -/
def simWholeUptoRow : OpenClaim := { program := "ythdngohdkfkpiaa", sum := "36d65b1c6264a2c98f10a4f434374c56937eba55ee5339904c4aed40133fa7ff", func := "slipstick/slipsticklaw07.SimWhole", spec := "simWhole", unfollowed := true, recurses := true, apart := false, narrowed := true }
def SimWholeUptoSaid : Prop := simWholeUptoRow.holds Try.pinned (OpenSpec.upto simWholeSpec)

end Rows
end Go.Proofs.Ythdngohdkfkpiaa
