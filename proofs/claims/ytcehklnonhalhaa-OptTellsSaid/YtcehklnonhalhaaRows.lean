/-
  No cell of these rows narrows 'for every input' (looked for: loops, veiled, ifaces, maps, wideKeys, modest, calm, conditions, laid).
  DERIVED. THE GIVEN ROWS OF THIS SEAT. 11 by the template 'for every input the law returns true; each argument reads behind the call as it read before'; 0 by the template 'total and deterministic' (their statements: YtcehklnonhalhaaTotals.lean).
  GIVEN WITH THE SEED: the statements are not yours to turn. If you find one false, say at which input.
  Laid BY PROGRAM, IN A SANDBOX (cutbox-rows.mjs): the forced cells as the released guide's own fill.sh prints them over the translation 2ad21bc899127451… (all of the seat's roots in one cut). By AI agents, Wed Nov 11 2026. No macro, syntax, notation, axiom, sorry.
-/
import Derived.Test.YtcehklnonhalhaaChecked
import GoSem.Claim
import GoSem.ClaimJoined
import GoSem.ClaimMapViews
import Derived.JoinedTies
import Derived.KernelRfl
namespace Go.Proofs.Ytcehklnonhalhaa
/- THE CELL 'sum', in the pinned program and in every row, IS THE sha256 OF THE DUMP (.gsa) THAT YtcehklnonhalhaaProg.lean LOADS. Nothing in Lean hashes anything: it is a label: what it is worth is what the hold of that sum in a sandbox is worth. -/
noncomputable def Try.pinned : Pinned := { name := "ytcehklnonhalhaa", sum := "2ad21bc89912745152e2a14a0e5375d580969f6e8472662214fa6c6225386b35", checked := Try.checked }
namespace Rows
def none {H : Type} : Left H := { results := [], args := [] }

/-- 'slipsticklaw09.FoldSame': WHATEVER THE INPUT: true; the input reads as it did. -/
def foldSameSpec : ChangeSpec := { name := "foldSame", fn := fun _ => fun
  | [d1, d2] => { results := [.lit (.bool true)], args := [d1, d2] }
  | _ => none }
def foldSameRow : OpenClaim := { program := "ytcehklnonhalhaa", sum := "2ad21bc89912745152e2a14a0e5375d580969f6e8472662214fa6c6225386b35", func := "slipstick/slipsticklaw09.FoldSame", spec := "foldSame", plainKeys := false, apart := false }
def FoldSameSaid : Prop := foldSameRow.holds Try.pinned (OpenSpec.ofChange foldSameSpec)

/-- ITS FALSE NEIGHBOUR: 'it returns false'. Refute it at one input. -/
def foldSameWrong : ChangeSpec := { name := "foldSame", fn := fun _ => fun
  | [d1, d2] => { results := [.lit (.bool false)], args := [d1, d2] }
  | _ => none }
def FoldSameWrongFalsely : Prop := foldSameRow.holds Try.pinned (OpenSpec.ofChange foldSameWrong)

/-- 'slipsticklaw09.FoldLeft': WHATEVER THE INPUT: true; the input reads as it did. -/
def foldLeftSpec : ChangeSpec := { name := "foldLeft", fn := fun _ => fun
  | [d] => { results := [.lit (.bool true)], args := [d] }
  | _ => none }
def foldLeftRow : OpenClaim := { program := "ytcehklnonhalhaa", sum := "2ad21bc89912745152e2a14a0e5375d580969f6e8472662214fa6c6225386b35", func := "slipstick/slipsticklaw09.FoldLeft", spec := "foldLeft", plainKeys := false, apart := false }
def FoldLeftSaid : Prop := foldLeftRow.holds Try.pinned (OpenSpec.ofChange foldLeftSpec)

/-- ITS FALSE NEIGHBOUR: 'it returns false'. Refute it at one input. -/
def foldLeftWrong : ChangeSpec := { name := "foldLeft", fn := fun _ => fun
  | [d] => { results := [.lit (.bool false)], args := [d] }
  | _ => none }
def FoldLeftWrongFalsely : Prop := foldLeftRow.holds Try.pinned (OpenSpec.ofChange foldLeftWrong)

/-- 'slipsticklaw10.ShareSame': WHATEVER THE INPUT: true; the input reads as it did. -/
def shareSameSpec : ChangeSpec := { name := "shareSame", fn := fun _ => fun
  | [d1, d2] => { results := [.lit (.bool true)], args := [d1, d2] }
  | _ => none }
def shareSameRow : OpenClaim := { program := "ytcehklnonhalhaa", sum := "2ad21bc89912745152e2a14a0e5375d580969f6e8472662214fa6c6225386b35", func := "slipstick/slipsticklaw10.ShareSame", spec := "shareSame", plainKeys := false, apart := false }
def ShareSameSaid : Prop := shareSameRow.holds Try.pinned (OpenSpec.ofChange shareSameSpec)

/-- ITS FALSE NEIGHBOUR: 'it returns false'. Refute it at one input. -/
def shareSameWrong : ChangeSpec := { name := "shareSame", fn := fun _ => fun
  | [d1, d2] => { results := [.lit (.bool false)], args := [d1, d2] }
  | _ => none }
def ShareSameWrongFalsely : Prop := shareSameRow.holds Try.pinned (OpenSpec.ofChange shareSameWrong)

/-- 'slipsticklaw10.ShareLeft': WHATEVER THE INPUT: true; the input reads as it did. -/
def shareLeftSpec : ChangeSpec := { name := "shareLeft", fn := fun _ => fun
  | [d] => { results := [.lit (.bool true)], args := [d] }
  | _ => none }
def shareLeftRow : OpenClaim := { program := "ytcehklnonhalhaa", sum := "2ad21bc89912745152e2a14a0e5375d580969f6e8472662214fa6c6225386b35", func := "slipstick/slipsticklaw10.ShareLeft", spec := "shareLeft", plainKeys := false, apart := false }
def ShareLeftSaid : Prop := shareLeftRow.holds Try.pinned (OpenSpec.ofChange shareLeftSpec)

/-- ITS FALSE NEIGHBOUR: 'it returns false'. Refute it at one input. -/
def shareLeftWrong : ChangeSpec := { name := "shareLeft", fn := fun _ => fun
  | [d] => { results := [.lit (.bool false)], args := [d] }
  | _ => none }
def ShareLeftWrongFalsely : Prop := shareLeftRow.holds Try.pinned (OpenSpec.ofChange shareLeftWrong)

/-- 'slipsticklaw11.SweepTells': WHATEVER THE INPUT: true; the input reads as it did. -/
def sweepTellsSpec : ChangeSpec := { name := "sweepTells", fn := fun _ => fun
  | [d1, d2] => { results := [.lit (.bool true)], args := [d1, d2] }
  | _ => none }
def sweepTellsRow : OpenClaim := { program := "ytcehklnonhalhaa", sum := "2ad21bc89912745152e2a14a0e5375d580969f6e8472662214fa6c6225386b35", func := "slipstick/slipsticklaw11.SweepTells", spec := "sweepTells", unfollowed := true, recurses := true, plainKeys := false, apart := false }
def SweepTellsSaid : Prop := sweepTellsRow.holds Try.pinned (OpenSpec.ofChange sweepTellsSpec)

/-- ITS FALSE NEIGHBOUR: 'it returns false'. Refute it at one input. -/
def sweepTellsWrong : ChangeSpec := { name := "sweepTells", fn := fun _ => fun
  | [d1, d2] => { results := [.lit (.bool false)], args := [d1, d2] }
  | _ => none }
def SweepTellsWrongFalsely : Prop := sweepTellsRow.holds Try.pinned (OpenSpec.ofChange sweepTellsWrong)

/-- 'slipsticklaw11.SweepSame': WHATEVER THE INPUT: true; the input reads as it did. -/
def sweepSameSpec : ChangeSpec := { name := "sweepSame", fn := fun _ => fun
  | [d1, d2] => { results := [.lit (.bool true)], args := [d1, d2] }
  | _ => none }
def sweepSameRow : OpenClaim := { program := "ytcehklnonhalhaa", sum := "2ad21bc89912745152e2a14a0e5375d580969f6e8472662214fa6c6225386b35", func := "slipstick/slipsticklaw11.SweepSame", spec := "sweepSame", unfollowed := true, recurses := true, plainKeys := false, apart := false }
def SweepSameSaid : Prop := sweepSameRow.holds Try.pinned (OpenSpec.ofChange sweepSameSpec)

/-- ITS FALSE NEIGHBOUR: 'it returns false'. Refute it at one input. -/
def sweepSameWrong : ChangeSpec := { name := "sweepSame", fn := fun _ => fun
  | [d1, d2] => { results := [.lit (.bool false)], args := [d1, d2] }
  | _ => none }
def SweepSameWrongFalsely : Prop := sweepSameRow.holds Try.pinned (OpenSpec.ofChange sweepSameWrong)

/-- 'slipsticklaw11.SweepCones': WHATEVER THE INPUT: true; the input reads as it did. -/
def sweepConesSpec : ChangeSpec := { name := "sweepCones", fn := fun _ => fun
  | [d1, d2] => { results := [.lit (.bool true)], args := [d1, d2] }
  | _ => none }
def sweepConesRow : OpenClaim := { program := "ytcehklnonhalhaa", sum := "2ad21bc89912745152e2a14a0e5375d580969f6e8472662214fa6c6225386b35", func := "slipstick/slipsticklaw11.SweepCones", spec := "sweepCones", unfollowed := true, recurses := true, plainKeys := false, apart := false }
def SweepConesSaid : Prop := sweepConesRow.holds Try.pinned (OpenSpec.ofChange sweepConesSpec)

/-- ITS FALSE NEIGHBOUR: 'it returns false'. Refute it at one input. -/
def sweepConesWrong : ChangeSpec := { name := "sweepCones", fn := fun _ => fun
  | [d1, d2] => { results := [.lit (.bool false)], args := [d1, d2] }
  | _ => none }
def SweepConesWrongFalsely : Prop := sweepConesRow.holds Try.pinned (OpenSpec.ofChange sweepConesWrong)

/-- 'slipsticklaw12.OptTells': WHATEVER THE INPUT: true; the input reads as it did. -/
def optTellsSpec : ChangeSpec := { name := "optTells", fn := fun _ => fun
  | [d1, d2] => { results := [.lit (.bool true)], args := [d1, d2] }
  | _ => none }
def optTellsRow : OpenClaim := { program := "ytcehklnonhalhaa", sum := "2ad21bc89912745152e2a14a0e5375d580969f6e8472662214fa6c6225386b35", func := "slipstick/slipsticklaw12.OptTells", spec := "optTells", unfollowed := true, recurses := true, plainKeys := false, apart := false }
def OptTellsSaid : Prop := optTellsRow.holds Try.pinned (OpenSpec.ofChange optTellsSpec)

/-- ITS FALSE NEIGHBOUR: 'it returns false'. Refute it at one input. -/
def optTellsWrong : ChangeSpec := { name := "optTells", fn := fun _ => fun
  | [d1, d2] => { results := [.lit (.bool false)], args := [d1, d2] }
  | _ => none }
def OptTellsWrongFalsely : Prop := optTellsRow.holds Try.pinned (OpenSpec.ofChange optTellsWrong)

/-- 'slipsticklaw12.OptSame': WHATEVER THE INPUT: true; the input reads as it did. -/
def optSameSpec : ChangeSpec := { name := "optSame", fn := fun _ => fun
  | [d1, d2, d3] => { results := [.lit (.bool true)], args := [d1, d2, d3] }
  | _ => none }
def optSameRow : OpenClaim := { program := "ytcehklnonhalhaa", sum := "2ad21bc89912745152e2a14a0e5375d580969f6e8472662214fa6c6225386b35", func := "slipstick/slipsticklaw12.OptSame", spec := "optSame", unfollowed := true, recurses := true, plainKeys := false, apart := false }
def OptSameSaid : Prop := optSameRow.holds Try.pinned (OpenSpec.ofChange optSameSpec)

/-- ITS FALSE NEIGHBOUR: 'it returns false'. Refute it at one input. -/
def optSameWrong : ChangeSpec := { name := "optSame", fn := fun _ => fun
  | [d1, d2, d3] => { results := [.lit (.bool false)], args := [d1, d2, d3] }
  | _ => none }
def OptSameWrongFalsely : Prop := optSameRow.holds Try.pinned (OpenSpec.ofChange optSameWrong)

/-- 'slipsticklaw12.OptSettles': WHATEVER THE INPUT: true; the input reads as it did. -/
def optSettlesSpec : ChangeSpec := { name := "optSettles", fn := fun _ => fun
  | [d1, d2] => { results := [.lit (.bool true)], args := [d1, d2] }
  | _ => none }
def optSettlesRow : OpenClaim := { program := "ytcehklnonhalhaa", sum := "2ad21bc89912745152e2a14a0e5375d580969f6e8472662214fa6c6225386b35", func := "slipstick/slipsticklaw12.OptSettles", spec := "optSettles", unfollowed := true, recurses := true, plainKeys := false, apart := false }
def OptSettlesSaid : Prop := optSettlesRow.holds Try.pinned (OpenSpec.ofChange optSettlesSpec)

/-- ITS FALSE NEIGHBOUR: 'it returns false'. Refute it at one input. -/
def optSettlesWrong : ChangeSpec := { name := "optSettles", fn := fun _ => fun
  | [d1, d2] => { results := [.lit (.bool false)], args := [d1, d2] }
  | _ => none }
def OptSettlesWrongFalsely : Prop := optSettlesRow.holds Try.pinned (OpenSpec.ofChange optSettlesWrong)

/-- 'slipsticklaw12.OptSweeps': WHATEVER THE INPUT: true; the input reads as it did. -/
def optSweepsSpec : ChangeSpec := { name := "optSweeps", fn := fun _ => fun
  | [d] => { results := [.lit (.bool true)], args := [d] }
  | _ => none }
def optSweepsRow : OpenClaim := { program := "ytcehklnonhalhaa", sum := "2ad21bc89912745152e2a14a0e5375d580969f6e8472662214fa6c6225386b35", func := "slipstick/slipsticklaw12.OptSweeps", spec := "optSweeps", unfollowed := true, recurses := true, plainKeys := false, apart := false }
def OptSweepsSaid : Prop := optSweepsRow.holds Try.pinned (OpenSpec.ofChange optSweepsSpec)

/-- ITS FALSE NEIGHBOUR: 'it returns false'. Refute it at one input. -/
def optSweepsWrong : ChangeSpec := { name := "optSweeps", fn := fun _ => fun
  | [d] => { results := [.lit (.bool false)], args := [d] }
  | _ => none }
def OptSweepsWrongFalsely : Prop := optSweepsRow.holds Try.pinned (OpenSpec.ofChange optSweepsWrong)

/- THE SECOND FORM. 'bulk': how many values and letters a reading holds, each counted each time it is reached (what is shared counts as often as it is met; a slice's spare places count too). A statement '..UptoSaid' is the law's where the arguments, and the package variables that the reading takes, are together of bulk at most 1048576: NARROWER than '..Said'. Prove '..Said' where nothing that the law and all that it calls make is longer than what came in: it says more and counts as full. Else prove '..UptoSaid'. A law counts once. -/
mutual
def uptoBulk {H : Type} : DataW H → Nat
  | .lit (.string bytes) => bytes.length + 1
  | .lit _ => 1
  | .nil => 1
  | .ptr d => uptoBulk d + 1
  | .slice elems spare => uptoBulkAll elems + uptoBulkAll spare + 1
  | .agg parts => uptoBulkAll parts + 1
  | .iface _ d => uptoBulk d + 1
  | .map entries => uptoBulkEntries entries + 1
  | .held _ => 1
def uptoBulkAll {H : Type} : List (DataW H) → Nat
  | [] => 0
  | d :: r => uptoBulk d + uptoBulkAll r
def uptoBulkEntries {H : Type} : List (Lit × DataW H) → Nat
  | [] => 0
  | x :: r => uptoBulkEntry x + uptoBulkEntries r
def uptoBulkEntry {H : Type} : Lit × DataW H → Nat
  | (.string bytes, d) => bytes.length + uptoBulk d + 1
  | (_, d) => uptoBulk d + 1
 end
def uptoSmall : (H : Type) → List (DataW H) → Bool := fun _ ds => decide (uptoBulkAll ds ≤ 1048576)
def OpenSpec.upto (s : _root_.Go.ChangeSpec) : _root_.Go.OpenSpec := { _root_.Go.OpenSpec.ofChange s with cond := some uptoSmall }

/-- 'slipsticklaw09.FoldSame', WHERE WHAT IT READS IS OF BULK AT MOST 1048576: true; the input reads as it did. -/
def foldSameUptoRow : OpenClaim := { program := "ytcehklnonhalhaa", sum := "2ad21bc89912745152e2a14a0e5375d580969f6e8472662214fa6c6225386b35", func := "slipstick/slipsticklaw09.FoldSame", spec := "foldSame", plainKeys := false, apart := false, narrowed := true }
def FoldSameUptoSaid : Prop := foldSameUptoRow.holds Try.pinned (OpenSpec.upto foldSameSpec)

/-- 'slipsticklaw09.FoldLeft', WHERE WHAT IT READS IS OF BULK AT MOST 1048576: true; the input reads as it did. -/
def foldLeftUptoRow : OpenClaim := { program := "ytcehklnonhalhaa", sum := "2ad21bc89912745152e2a14a0e5375d580969f6e8472662214fa6c6225386b35", func := "slipstick/slipsticklaw09.FoldLeft", spec := "foldLeft", plainKeys := false, apart := false, narrowed := true }
def FoldLeftUptoSaid : Prop := foldLeftUptoRow.holds Try.pinned (OpenSpec.upto foldLeftSpec)

/-- 'slipsticklaw10.ShareSame', WHERE WHAT IT READS IS OF BULK AT MOST 1048576: true; the input reads as it did. -/
def shareSameUptoRow : OpenClaim := { program := "ytcehklnonhalhaa", sum := "2ad21bc89912745152e2a14a0e5375d580969f6e8472662214fa6c6225386b35", func := "slipstick/slipsticklaw10.ShareSame", spec := "shareSame", plainKeys := false, apart := false, narrowed := true }
def ShareSameUptoSaid : Prop := shareSameUptoRow.holds Try.pinned (OpenSpec.upto shareSameSpec)

/-- 'slipsticklaw10.ShareLeft', WHERE WHAT IT READS IS OF BULK AT MOST 1048576: true; the input reads as it did. -/
def shareLeftUptoRow : OpenClaim := { program := "ytcehklnonhalhaa", sum := "2ad21bc89912745152e2a14a0e5375d580969f6e8472662214fa6c6225386b35", func := "slipstick/slipsticklaw10.ShareLeft", spec := "shareLeft", plainKeys := false, apart := false, narrowed := true }
def ShareLeftUptoSaid : Prop := shareLeftUptoRow.holds Try.pinned (OpenSpec.upto shareLeftSpec)

/-- 'slipsticklaw11.SweepTells', WHERE WHAT IT READS IS OF BULK AT MOST 1048576: true; the input reads as it did. -/
def sweepTellsUptoRow : OpenClaim := { program := "ytcehklnonhalhaa", sum := "2ad21bc89912745152e2a14a0e5375d580969f6e8472662214fa6c6225386b35", func := "slipstick/slipsticklaw11.SweepTells", spec := "sweepTells", unfollowed := true, recurses := true, plainKeys := false, apart := false, narrowed := true }
def SweepTellsUptoSaid : Prop := sweepTellsUptoRow.holds Try.pinned (OpenSpec.upto sweepTellsSpec)

/-- 'slipsticklaw11.SweepSame', WHERE WHAT IT READS IS OF BULK AT MOST 1048576: true; the input reads as it did. -/
def sweepSameUptoRow : OpenClaim := { program := "ytcehklnonhalhaa", sum := "2ad21bc89912745152e2a14a0e5375d580969f6e8472662214fa6c6225386b35", func := "slipstick/slipsticklaw11.SweepSame", spec := "sweepSame", unfollowed := true, recurses := true, plainKeys := false, apart := false, narrowed := true }
def SweepSameUptoSaid : Prop := sweepSameUptoRow.holds Try.pinned (OpenSpec.upto sweepSameSpec)

/-- 'slipsticklaw11.SweepCones', WHERE WHAT IT READS IS OF BULK AT MOST 1048576: true; the input reads as it did. -/
def sweepConesUptoRow : OpenClaim := { program := "ytcehklnonhalhaa", sum := "2ad21bc89912745152e2a14a0e5375d580969f6e8472662214fa6c6225386b35", func := "slipstick/slipsticklaw11.SweepCones", spec := "sweepCones", unfollowed := true, recurses := true, plainKeys := false, apart := false, narrowed := true }
def SweepConesUptoSaid : Prop := sweepConesUptoRow.holds Try.pinned (OpenSpec.upto sweepConesSpec)

/-- 'slipsticklaw12.OptTells', WHERE WHAT IT READS IS OF BULK AT MOST 1048576: true; the input reads as it did. -/
def optTellsUptoRow : OpenClaim := { program := "ytcehklnonhalhaa", sum := "2ad21bc89912745152e2a14a0e5375d580969f6e8472662214fa6c6225386b35", func := "slipstick/slipsticklaw12.OptTells", spec := "optTells", unfollowed := true, recurses := true, plainKeys := false, apart := false, narrowed := true }
def OptTellsUptoSaid : Prop := optTellsUptoRow.holds Try.pinned (OpenSpec.upto optTellsSpec)

/-- 'slipsticklaw12.OptSame', WHERE WHAT IT READS IS OF BULK AT MOST 1048576: true; the input reads as it did. -/
def optSameUptoRow : OpenClaim := { program := "ytcehklnonhalhaa", sum := "2ad21bc89912745152e2a14a0e5375d580969f6e8472662214fa6c6225386b35", func := "slipstick/slipsticklaw12.OptSame", spec := "optSame", unfollowed := true, recurses := true, plainKeys := false, apart := false, narrowed := true }
def OptSameUptoSaid : Prop := optSameUptoRow.holds Try.pinned (OpenSpec.upto optSameSpec)

/-- 'slipsticklaw12.OptSettles', WHERE WHAT IT READS IS OF BULK AT MOST 1048576: true; the input reads as it did. -/
def optSettlesUptoRow : OpenClaim := { program := "ytcehklnonhalhaa", sum := "2ad21bc89912745152e2a14a0e5375d580969f6e8472662214fa6c6225386b35", func := "slipstick/slipsticklaw12.OptSettles", spec := "optSettles", unfollowed := true, recurses := true, plainKeys := false, apart := false, narrowed := true }
def OptSettlesUptoSaid : Prop := optSettlesUptoRow.holds Try.pinned (OpenSpec.upto optSettlesSpec)

/-- 'slipsticklaw12.OptSweeps', WHERE WHAT IT READS IS OF BULK AT MOST 1048576: true; the input reads as it did. -/
def optSweepsUptoRow : OpenClaim := { program := "ytcehklnonhalhaa", sum := "2ad21bc89912745152e2a14a0e5375d580969f6e8472662214fa6c6225386b35", func := "slipstick/slipsticklaw12.OptSweeps", spec := "optSweeps", unfollowed := true, recurses := true, plainKeys := false, apart := false, narrowed := true }
def OptSweepsUptoSaid : Prop := optSweepsUptoRow.holds Try.pinned (OpenSpec.upto optSweepsSpec)

end Rows
end Go.Proofs.Ytcehklnonhalhaa
