/-
  No cell of these rows narrows 'for every input' (looked for: loops, veiled, ifaces, maps, wideKeys, modest, calm, conditions, laid).
  DERIVED. THE GIVEN ROWS OF THIS SEAT. 11 by the template 'for every input the law returns true; each argument reads behind the call as it read before'; 0 by the template 'total and deterministic' (their statements: YtcfmgoilncninaaTotals.lean).
  GIVEN WITH THE SEED: the statements are not yours to turn. If you find one false, say at which input.
  Laid BY PROGRAM, IN A SANDBOX (cutbox-rows.mjs): the forced cells as the released guide's own fill.sh prints them over the translation 853cb6922890e26a… (all of the seat's roots in one cut). By AI agents, Wed Nov 11 2026. No macro, syntax, notation, axiom, sorry.
-/
import Derived.Test.YtcfmgoilncninaaChecked
import GoSem.Claim
import GoSem.ClaimJoined
import GoSem.ClaimMapViews
import Derived.JoinedTies
import Derived.KernelRfl
namespace Go.Proofs.Ytcfmgoilncninaa
/- THE CELL 'sum', in the pinned program and in every row, IS THE sha256 OF THE DUMP (.gsa) THAT YtcfmgoilncninaaProg.lean LOADS. Nothing in Lean hashes anything: it is a label: what it is worth is what the hold of that sum in a sandbox is worth. -/
noncomputable def Try.pinned : Pinned := { name := "ytcfmgoilncninaa", sum := "853cb6922890e26af31ef7b0f7a270323afdadf54f768e122a3829296322c55e", checked := Try.checked }
namespace Rows
def none {H : Type} : Left H := { results := [], args := [] }

/-- 'slipsticklaw08.BuildWords': WHATEVER THE INPUT: true; the input reads as it did. -/
def buildWordsSpec : ChangeSpec := { name := "buildWords", fn := fun _ => fun
  | [d1, d2, d3, d4, d5, d6, d7] => { results := [.lit (.bool true)], args := [d1, d2, d3, d4, d5, d6, d7] }
  | _ => none }
def buildWordsRow : OpenClaim := { program := "ytcfmgoilncninaa", sum := "853cb6922890e26af31ef7b0f7a270323afdadf54f768e122a3829296322c55e", func := "slipstick/slipsticklaw08.BuildWords", spec := "buildWords", unfollowed := true, recurses := true, apart := false }
def BuildWordsSaid : Prop := buildWordsRow.holds Try.pinned (OpenSpec.ofChange buildWordsSpec)

/-- ITS FALSE NEIGHBOUR: 'it returns false'. Refute it at one input. -/
def buildWordsWrong : ChangeSpec := { name := "buildWords", fn := fun _ => fun
  | [d1, d2, d3, d4, d5, d6, d7] => { results := [.lit (.bool false)], args := [d1, d2, d3, d4, d5, d6, d7] }
  | _ => none }
def BuildWordsWrongFalsely : Prop := buildWordsRow.holds Try.pinned (OpenSpec.ofChange buildWordsWrong)

/-- 'slipsticklaw08.BuildLater': WHATEVER THE INPUT: true; the input reads as it did. -/
def buildLaterSpec : ChangeSpec := { name := "buildLater", fn := fun _ => fun
  | [d1, d2, d3] => { results := [.lit (.bool true)], args := [d1, d2, d3] }
  | _ => none }
def buildLaterRow : OpenClaim := { program := "ytcfmgoilncninaa", sum := "853cb6922890e26af31ef7b0f7a270323afdadf54f768e122a3829296322c55e", func := "slipstick/slipsticklaw08.BuildLater", spec := "buildLater", unfollowed := true, recurses := true, apart := false }
def BuildLaterSaid : Prop := buildLaterRow.holds Try.pinned (OpenSpec.ofChange buildLaterSpec)

/-- ITS FALSE NEIGHBOUR: 'it returns false'. Refute it at one input. -/
def buildLaterWrong : ChangeSpec := { name := "buildLater", fn := fun _ => fun
  | [d1, d2, d3] => { results := [.lit (.bool false)], args := [d1, d2, d3] }
  | _ => none }
def BuildLaterWrongFalsely : Prop := buildLaterRow.holds Try.pinned (OpenSpec.ofChange buildLaterWrong)

/-- 'slipsticklaw14.AdderSums': WHATEVER THE INPUT: true; the input reads as it did. -/
def adderSumsSpec : ChangeSpec := { name := "adderSums", fn := fun _ => fun
  | [d1, d2, d3, d4, d5, d6] => { results := [.lit (.bool true)], args := [d1, d2, d3, d4, d5, d6] }
  | _ => none }
def adderSumsRow : OpenClaim := { program := "ytcfmgoilncninaa", sum := "853cb6922890e26af31ef7b0f7a270323afdadf54f768e122a3829296322c55e", func := "slipstick/slipsticklaw14.AdderSums", spec := "adderSums", unfollowed := true, recurses := true, apart := false }
def AdderSumsSaid : Prop := adderSumsRow.holds Try.pinned (OpenSpec.ofChange adderSumsSpec)

/-- ITS FALSE NEIGHBOUR: 'it returns false'. Refute it at one input. -/
def adderSumsWrong : ChangeSpec := { name := "adderSums", fn := fun _ => fun
  | [d1, d2, d3, d4, d5, d6] => { results := [.lit (.bool false)], args := [d1, d2, d3, d4, d5, d6] }
  | _ => none }
def AdderSumsWrongFalsely : Prop := adderSumsRow.holds Try.pinned (OpenSpec.ofChange adderSumsWrong)

/-- 'slipsticklaw14.AdderLess': WHATEVER THE INPUT: true; the input reads as it did. -/
def adderLessSpec : ChangeSpec := { name := "adderLess", fn := fun _ => fun
  | [d1, d2, d3, d4, d5] => { results := [.lit (.bool true)], args := [d1, d2, d3, d4, d5] }
  | _ => none }
def adderLessRow : OpenClaim := { program := "ytcfmgoilncninaa", sum := "853cb6922890e26af31ef7b0f7a270323afdadf54f768e122a3829296322c55e", func := "slipstick/slipsticklaw14.AdderLess", spec := "adderLess", unfollowed := true, recurses := true, apart := false }
def AdderLessSaid : Prop := adderLessRow.holds Try.pinned (OpenSpec.ofChange adderLessSpec)

/-- ITS FALSE NEIGHBOUR: 'it returns false'. Refute it at one input. -/
def adderLessWrong : ChangeSpec := { name := "adderLess", fn := fun _ => fun
  | [d1, d2, d3, d4, d5] => { results := [.lit (.bool false)], args := [d1, d2, d3, d4, d5] }
  | _ => none }
def AdderLessWrongFalsely : Prop := adderLessRow.holds Try.pinned (OpenSpec.ofChange adderLessWrong)

/-- 'slipsticklaw15.TreeRounds': WHATEVER THE INPUT: true; the input reads as it did. -/
def treeRoundsSpec : ChangeSpec := { name := "treeRounds", fn := fun _ => fun
  | [d] => { results := [.lit (.bool true)], args := [d] }
  | _ => none }
def treeRoundsRow : OpenClaim := { program := "ytcfmgoilncninaa", sum := "853cb6922890e26af31ef7b0f7a270323afdadf54f768e122a3829296322c55e", func := "slipstick/slipsticklaw15.TreeRounds", spec := "treeRounds", unfollowed := true, recurses := true, apart := false }
def TreeRoundsSaid : Prop := treeRoundsRow.holds Try.pinned (OpenSpec.ofChange treeRoundsSpec)

/-- ITS FALSE NEIGHBOUR: 'it returns false'. Refute it at one input. -/
def treeRoundsWrong : ChangeSpec := { name := "treeRounds", fn := fun _ => fun
  | [d] => { results := [.lit (.bool false)], args := [d] }
  | _ => none }
def TreeRoundsWrongFalsely : Prop := treeRoundsRow.holds Try.pinned (OpenSpec.ofChange treeRoundsWrong)

/-- 'slipsticklaw15.TreeOrder': WHATEVER THE INPUT: true; the input reads as it did. -/
def treeOrderSpec : ChangeSpec := { name := "treeOrder", fn := fun _ => fun
  | [d1, d2, d3] => { results := [.lit (.bool true)], args := [d1, d2, d3] }
  | _ => none }
def treeOrderRow : OpenClaim := { program := "ytcfmgoilncninaa", sum := "853cb6922890e26af31ef7b0f7a270323afdadf54f768e122a3829296322c55e", func := "slipstick/slipsticklaw15.TreeOrder", spec := "treeOrder", unfollowed := true, recurses := true, apart := false }
def TreeOrderSaid : Prop := treeOrderRow.holds Try.pinned (OpenSpec.ofChange treeOrderSpec)

/-- ITS FALSE NEIGHBOUR: 'it returns false'. Refute it at one input. -/
def treeOrderWrong : ChangeSpec := { name := "treeOrder", fn := fun _ => fun
  | [d1, d2, d3] => { results := [.lit (.bool false)], args := [d1, d2, d3] }
  | _ => none }
def TreeOrderWrongFalsely : Prop := treeOrderRow.holds Try.pinned (OpenSpec.ofChange treeOrderWrong)

/-- 'slipsticklaw16.BoothMuls': WHATEVER THE INPUT: true; the input reads as it did. -/
def boothMulsSpec : ChangeSpec := { name := "boothMuls", fn := fun _ => fun
  | [d1, d2, d3, d4] => { results := [.lit (.bool true)], args := [d1, d2, d3, d4] }
  | _ => none }
def boothMulsRow : OpenClaim := { program := "ytcfmgoilncninaa", sum := "853cb6922890e26af31ef7b0f7a270323afdadf54f768e122a3829296322c55e", func := "slipstick/slipsticklaw16.BoothMuls", spec := "boothMuls", unfollowed := true, recurses := true, apart := false }
def BoothMulsSaid : Prop := boothMulsRow.holds Try.pinned (OpenSpec.ofChange boothMulsSpec)

/-- ITS FALSE NEIGHBOUR: 'it returns false'. Refute it at one input. -/
def boothMulsWrong : ChangeSpec := { name := "boothMuls", fn := fun _ => fun
  | [d1, d2, d3, d4] => { results := [.lit (.bool false)], args := [d1, d2, d3, d4] }
  | _ => none }
def BoothMulsWrongFalsely : Prop := boothMulsRow.holds Try.pinned (OpenSpec.ofChange boothMulsWrong)

/-- 'slipsticklaw16.BoothRows': WHATEVER THE INPUT: true; the input reads as it did. -/
def boothRowsSpec : ChangeSpec := { name := "boothRows", fn := fun _ => fun
  | [d1, d2, d3, d4, d5, d6] => { results := [.lit (.bool true)], args := [d1, d2, d3, d4, d5, d6] }
  | _ => none }
def boothRowsRow : OpenClaim := { program := "ytcfmgoilncninaa", sum := "853cb6922890e26af31ef7b0f7a270323afdadf54f768e122a3829296322c55e", func := "slipstick/slipsticklaw16.BoothRows", spec := "boothRows", unfollowed := true, recurses := true, apart := false }
def BoothRowsSaid : Prop := boothRowsRow.holds Try.pinned (OpenSpec.ofChange boothRowsSpec)

/-- ITS FALSE NEIGHBOUR: 'it returns false'. Refute it at one input. -/
def boothRowsWrong : ChangeSpec := { name := "boothRows", fn := fun _ => fun
  | [d1, d2, d3, d4, d5, d6] => { results := [.lit (.bool false)], args := [d1, d2, d3, d4, d5, d6] }
  | _ => none }
def BoothRowsWrongFalsely : Prop := boothRowsRow.holds Try.pinned (OpenSpec.ofChange boothRowsWrong)

/-- 'slipsticklaw16.BoothTurned': WHATEVER THE INPUT: true; the input reads as it did. -/
def boothTurnedSpec : ChangeSpec := { name := "boothTurned", fn := fun _ => fun
  | [d1, d2, d3, d4] => { results := [.lit (.bool true)], args := [d1, d2, d3, d4] }
  | _ => none }
def boothTurnedRow : OpenClaim := { program := "ytcfmgoilncninaa", sum := "853cb6922890e26af31ef7b0f7a270323afdadf54f768e122a3829296322c55e", func := "slipstick/slipsticklaw16.BoothTurned", spec := "boothTurned", unfollowed := true, recurses := true, apart := false }
def BoothTurnedSaid : Prop := boothTurnedRow.holds Try.pinned (OpenSpec.ofChange boothTurnedSpec)

/-- ITS FALSE NEIGHBOUR: 'it returns false'. Refute it at one input. -/
def boothTurnedWrong : ChangeSpec := { name := "boothTurned", fn := fun _ => fun
  | [d1, d2, d3, d4] => { results := [.lit (.bool false)], args := [d1, d2, d3, d4] }
  | _ => none }
def BoothTurnedWrongFalsely : Prop := boothTurnedRow.holds Try.pinned (OpenSpec.ofChange boothTurnedWrong)

/-- 'slipsticklaw17.ShiftTells': WHATEVER THE INPUT: true; the input reads as it did. -/
def shiftTellsSpec : ChangeSpec := { name := "shiftTells", fn := fun _ => fun
  | [d1, d2, d3, d4] => { results := [.lit (.bool true)], args := [d1, d2, d3, d4] }
  | _ => none }
def shiftTellsRow : OpenClaim := { program := "ytcfmgoilncninaa", sum := "853cb6922890e26af31ef7b0f7a270323afdadf54f768e122a3829296322c55e", func := "slipstick/slipsticklaw17.ShiftTells", spec := "shiftTells", unfollowed := true, recurses := true, apart := false }
def ShiftTellsSaid : Prop := shiftTellsRow.holds Try.pinned (OpenSpec.ofChange shiftTellsSpec)

/-- ITS FALSE NEIGHBOUR: 'it returns false'. Refute it at one input. -/
def shiftTellsWrong : ChangeSpec := { name := "shiftTells", fn := fun _ => fun
  | [d1, d2, d3, d4] => { results := [.lit (.bool false)], args := [d1, d2, d3, d4] }
  | _ => none }
def ShiftTellsWrongFalsely : Prop := shiftTellsRow.holds Try.pinned (OpenSpec.ofChange shiftTellsWrong)

/-- 'slipsticklaw17.ShiftLeads': WHATEVER THE INPUT: true; the input reads as it did. -/
def shiftLeadsSpec : ChangeSpec := { name := "shiftLeads", fn := fun _ => fun
  | [d1, d2] => { results := [.lit (.bool true)], args := [d1, d2] }
  | _ => none }
def shiftLeadsRow : OpenClaim := { program := "ytcfmgoilncninaa", sum := "853cb6922890e26af31ef7b0f7a270323afdadf54f768e122a3829296322c55e", func := "slipstick/slipsticklaw17.ShiftLeads", spec := "shiftLeads", unfollowed := true, recurses := true, apart := false }
def ShiftLeadsSaid : Prop := shiftLeadsRow.holds Try.pinned (OpenSpec.ofChange shiftLeadsSpec)

/-- ITS FALSE NEIGHBOUR: 'it returns false'. Refute it at one input. -/
def shiftLeadsWrong : ChangeSpec := { name := "shiftLeads", fn := fun _ => fun
  | [d1, d2] => { results := [.lit (.bool false)], args := [d1, d2] }
  | _ => none }
def ShiftLeadsWrongFalsely : Prop := shiftLeadsRow.holds Try.pinned (OpenSpec.ofChange shiftLeadsWrong)

/- THE SECOND FORM. 'bulk': how many values and letters a reading holds, each counted each time it is reached (what is shared counts as often as it is met; a slice's spare places count too). A statement '..UptoSaid' is the law's where the arguments, and the package variables that the reading takes, are together of bulk at most 1048576: NARROWER than '..Said'. Prove '..Said' where nothing that the law and all that it calls make is longer than what came in: it says more and counts as full. Else prove '..UptoSaid'. A law counts once. -/
mutual
def uptoBulk {H : Type} : DataW H → Nat
  | .lit (.string bytes) => bytes.length + 1
  | .lit _ => 1
  | .nil => 1
  | .ptr d => uptoBulk d + 1
  | .slice elems spare => uptoBulkAll elems + uptoBulkAll spare + 1
  | .agg parts => uptoBulkAll parts + 1
  | .iface _ d => uptoBulk d + 1
  | .map entries => uptoBulkEntries entries + 1
  | .held _ => 1
def uptoBulkAll {H : Type} : List (DataW H) → Nat
  | [] => 0
  | d :: r => uptoBulk d + uptoBulkAll r
def uptoBulkEntries {H : Type} : List (Lit × DataW H) → Nat
  | [] => 0
  | x :: r => uptoBulkEntry x + uptoBulkEntries r
def uptoBulkEntry {H : Type} : Lit × DataW H → Nat
  | (.string bytes, d) => bytes.length + uptoBulk d + 1
  | (_, d) => uptoBulk d + 1
 end
def uptoSmall : (H : Type) → List (DataW H) → Bool := fun _ ds => decide (uptoBulkAll ds ≤ 1048576)
def OpenSpec.upto (s : _root_.Go.ChangeSpec) : _root_.Go.OpenSpec := { _root_.Go.OpenSpec.ofChange s with cond := some uptoSmall }

/-- 'slipsticklaw08.BuildWords', WHERE WHAT IT READS IS OF BULK AT MOST 1048576: true; the input reads as it did. -/
def buildWordsUptoRow : OpenClaim := { program := "ytcfmgoilncninaa", sum := "853cb6922890e26af31ef7b0f7a270323afdadf54f768e122a3829296322c55e", func := "slipstick/slipsticklaw08.BuildWords", spec := "buildWords", unfollowed := true, recurses := true, apart := false, narrowed := true }
def BuildWordsUptoSaid : Prop := buildWordsUptoRow.holds Try.pinned (OpenSpec.upto buildWordsSpec)

/-- 'slipsticklaw08.BuildLater', WHERE WHAT IT READS IS OF BULK AT MOST 1048576: true; the input reads as it did. -/
def buildLaterUptoRow : OpenClaim := { program := "ytcfmgoilncninaa", sum := "853cb6922890e26af31ef7b0f7a270323afdadf54f768e122a3829296322c55e", func := "slipstick/slipsticklaw08.BuildLater", spec := "buildLater", unfollowed := true, recurses := true, apart := false, narrowed := true }
def BuildLaterUptoSaid : Prop := buildLaterUptoRow.holds Try.pinned (OpenSpec.upto buildLaterSpec)

/-- 'slipsticklaw14.AdderSums', WHERE WHAT IT READS IS OF BULK AT MOST 1048576: true; the input reads as it did. -/
def adderSumsUptoRow : OpenClaim := { program := "ytcfmgoilncninaa", sum := "853cb6922890e26af31ef7b0f7a270323afdadf54f768e122a3829296322c55e", func := "slipstick/slipsticklaw14.AdderSums", spec := "adderSums", unfollowed := true, recurses := true, apart := false, narrowed := true }
def AdderSumsUptoSaid : Prop := adderSumsUptoRow.holds Try.pinned (OpenSpec.upto adderSumsSpec)

/-- 'slipsticklaw14.AdderLess', WHERE WHAT IT READS IS OF BULK AT MOST 1048576: true; the input reads as it did. -/
def adderLessUptoRow : OpenClaim := { program := "ytcfmgoilncninaa", sum := "853cb6922890e26af31ef7b0f7a270323afdadf54f768e122a3829296322c55e", func := "slipstick/slipsticklaw14.AdderLess", spec := "adderLess", unfollowed := true, recurses := true, apart := false, narrowed := true }
def AdderLessUptoSaid : Prop := adderLessUptoRow.holds Try.pinned (OpenSpec.upto adderLessSpec)

/-- 'slipsticklaw15.TreeRounds', WHERE WHAT IT READS IS OF BULK AT MOST 1048576: true; the input reads as it did. -/
def treeRoundsUptoRow : OpenClaim := { program := "ytcfmgoilncninaa", sum := "853cb6922890e26af31ef7b0f7a270323afdadf54f768e122a3829296322c55e", func := "slipstick/slipsticklaw15.TreeRounds", spec := "treeRounds", unfollowed := true, recurses := true, apart := false, narrowed := true }
def TreeRoundsUptoSaid : Prop := treeRoundsUptoRow.holds Try.pinned (OpenSpec.upto treeRoundsSpec)

/-- 'slipsticklaw15.TreeOrder', WHERE WHAT IT READS IS OF BULK AT MOST 1048576: true; the input reads as it did. -/
def treeOrderUptoRow : OpenClaim := { program := "ytcfmgoilncninaa", sum := "853cb6922890e26af31ef7b0f7a270323afdadf54f768e122a3829296322c55e", func := "slipstick/slipsticklaw15.TreeOrder", spec := "treeOrder", unfollowed := true, recurses := true, apart := false, narrowed := true }
def TreeOrderUptoSaid : Prop := treeOrderUptoRow.holds Try.pinned (OpenSpec.upto treeOrderSpec)

/-- 'slipsticklaw16.BoothMuls', WHERE WHAT IT READS IS OF BULK AT MOST 1048576: true; the input reads as it did. -/
def boothMulsUptoRow : OpenClaim := { program := "ytcfmgoilncninaa", sum := "853cb6922890e26af31ef7b0f7a270323afdadf54f768e122a3829296322c55e", func := "slipstick/slipsticklaw16.BoothMuls", spec := "boothMuls", unfollowed := true, recurses := true, apart := false, narrowed := true }
def BoothMulsUptoSaid : Prop := boothMulsUptoRow.holds Try.pinned (OpenSpec.upto boothMulsSpec)

/-- 'slipsticklaw16.BoothRows', WHERE WHAT IT READS IS OF BULK AT MOST 1048576: true; the input reads as it did. -/
def boothRowsUptoRow : OpenClaim := { program := "ytcfmgoilncninaa", sum := "853cb6922890e26af31ef7b0f7a270323afdadf54f768e122a3829296322c55e", func := "slipstick/slipsticklaw16.BoothRows", spec := "boothRows", unfollowed := true, recurses := true, apart := false, narrowed := true }
def BoothRowsUptoSaid : Prop := boothRowsUptoRow.holds Try.pinned (OpenSpec.upto boothRowsSpec)

/-- 'slipsticklaw16.BoothTurned', WHERE WHAT IT READS IS OF BULK AT MOST 1048576: true; the input reads as it did. -/
def boothTurnedUptoRow : OpenClaim := { program := "ytcfmgoilncninaa", sum := "853cb6922890e26af31ef7b0f7a270323afdadf54f768e122a3829296322c55e", func := "slipstick/slipsticklaw16.BoothTurned", spec := "boothTurned", unfollowed := true, recurses := true, apart := false, narrowed := true }
def BoothTurnedUptoSaid : Prop := boothTurnedUptoRow.holds Try.pinned (OpenSpec.upto boothTurnedSpec)

/-- 'slipsticklaw17.ShiftTells', WHERE WHAT IT READS IS OF BULK AT MOST 1048576: true; the input reads as it did. -/
def shiftTellsUptoRow : OpenClaim := { program := "ytcfmgoilncninaa", sum := "853cb6922890e26af31ef7b0f7a270323afdadf54f768e122a3829296322c55e", func := "slipstick/slipsticklaw17.ShiftTells", spec := "shiftTells", unfollowed := true, recurses := true, apart := false, narrowed := true }
def ShiftTellsUptoSaid : Prop := shiftTellsUptoRow.holds Try.pinned (OpenSpec.upto shiftTellsSpec)

/-- 'slipsticklaw17.ShiftLeads', WHERE WHAT IT READS IS OF BULK AT MOST 1048576: true; the input reads as it did. -/
def shiftLeadsUptoRow : OpenClaim := { program := "ytcfmgoilncninaa", sum := "853cb6922890e26af31ef7b0f7a270323afdadf54f768e122a3829296322c55e", func := "slipstick/slipsticklaw17.ShiftLeads", spec := "shiftLeads", unfollowed := true, recurses := true, apart := false, narrowed := true }
def ShiftLeadsUptoSaid : Prop := shiftLeadsUptoRow.holds Try.pinned (OpenSpec.upto shiftLeadsSpec)

end Rows
end Go.Proofs.Ytcfmgoilncninaa
