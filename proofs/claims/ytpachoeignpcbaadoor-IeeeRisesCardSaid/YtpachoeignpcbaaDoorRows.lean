/-
  NARROWER THAN 'FOR EVERY INPUT', by the rows' own cells (each row's printed sentence says how): IeeeTurned: laid · IeeeOne: laid · IeeeExact: laid · IeeeAgain: laid · IeeeRises: laid · IeeeNear: laid · IeeeUnit: laid · IeeeRest: laid.
  DERIVED. THE GIVEN ROWS OF THIS SEAT. 8 by the template 'for every input the law returns true; each argument reads behind the call as it read before'; 0 by the template 'total and deterministic' (their statements: YtpachoeignpcbaaDoorTotals.lean).
  GIVEN WITH THE SEED: the statements are not yours to turn. If you find one false, say at which input.
  Laid BY PROGRAM, IN A SANDBOX (cutbox-rows.mjs): the forced cells as the released guide's own fill.sh prints them over the translation 4f554c206de33772… (all of the seat's roots in one cut). By AI agents, Wed Nov 11 2026. No macro, syntax, notation, axiom, sorry.
-/
import Derived.Test.YtpachoeignpcbaaDoorChecked
import GoSem.Claim
import GoSem.ClaimJoined
import GoSem.ClaimMapViews
import Derived.JoinedTies
import Derived.KernelRfl
namespace Go.Proofs.YtpachoeignpcbaaDoor
/- THE CELL 'sum', in the pinned program and in every row, IS THE sha256 OF THE DUMP (.gsa) THAT YtpachoeignpcbaaDoorProg.lean LOADS. Nothing in Lean hashes anything: it is a label: what it is worth is what the hold of that sum in a sandbox is worth. -/
noncomputable def Tryd.pinned : Pinned := { name := "ytpachoeignpcbaadoor", sum := "4f554c206de33772c0cb82ffd421210f80a579aaf1439f44f545086915e80fd2", checked := Tryd.checked }
namespace Rows
def none {H : Type} : Left H := { results := [], args := [] }

/- WHAT THE LISTED PACKAGE-LEVEL VARIABLES READ AS WHEN THE CALL BEGINS. Each datum BY PROGRAM (the guide's laid-datum.mjs) off the statement by which the dump's own 'gosem.cut.vars' lays the variable. In a bare row this is a premise. The card (YtpachoeignpcbaaDoorCards.lean) ties it to the program's text. -/
def laid_math_bits_deBruijn32tab {H : Type} : DataW H := .agg [.lit (.int .u8 0), .lit (.int .u8 1), .lit (.int .u8 28), .lit (.int .u8 2), .lit (.int .u8 29), .lit (.int .u8 14), .lit (.int .u8 24), .lit (.int .u8 3), .lit (.int .u8 30), .lit (.int .u8 22), .lit (.int .u8 20), .lit (.int .u8 15), .lit (.int .u8 25), .lit (.int .u8 17), .lit (.int .u8 4), .lit (.int .u8 8), .lit (.int .u8 31), .lit (.int .u8 27), .lit (.int .u8 13), .lit (.int .u8 23), .lit (.int .u8 21), .lit (.int .u8 19), .lit (.int .u8 16), .lit (.int .u8 7), .lit (.int .u8 26), .lit (.int .u8 12), .lit (.int .u8 18), .lit (.int .u8 6), .lit (.int .u8 11), .lit (.int .u8 5), .lit (.int .u8 10), .lit (.int .u8 9)]
def laid_slipstick_format_forms {H : Type} : DataW H := .agg [.agg [.lit (.int .i64 16), .lit (.int .i64 11), .lit (.int .i64 5)], .agg [.lit (.int .i64 32), .lit (.int .i64 24), .lit (.int .i64 8)], .agg [.lit (.int .i64 64), .lit (.int .i64 53), .lit (.int .i64 11)]]

/-- 'slipsticklaw05.IeeeTurned': WHATEVER THE INPUT: true; the input reads as it did. -/
def ieeeTurnedSpec : ChangeSpec := { name := "ieeeTurned", fn := fun _ => fun
  | [d1, d2, d3, d4] => { results := [.lit (.bool true)], args := [d1, d2, d3, d4] }
  | _ => none }
def ieeeTurnedRow : OpenClaim := { program := "ytpachoeignpcbaadoor", sum := "4f554c206de33772c0cb82ffd421210f80a579aaf1439f44f545086915e80fd2", func := "slipstick/slipsticklaw05.IeeeTurned", spec := "ieeeTurned", unfollowed := true, recurses := true, named := ["slipstick/format.forms", "math/bits.deBruijn32tab"], apart := false, laid := [("math/bits.deBruijn32tab", laid_math_bits_deBruijn32tab), ("slipstick/format.forms", laid_slipstick_format_forms)] }
def IeeeTurnedSaid : Prop := ieeeTurnedRow.holds Tryd.pinned (OpenSpec.ofChange ieeeTurnedSpec)

/-- ITS FALSE NEIGHBOUR: 'it returns false'. Refute it at one input. -/
def ieeeTurnedWrong : ChangeSpec := { name := "ieeeTurned", fn := fun _ => fun
  | [d1, d2, d3, d4] => { results := [.lit (.bool false)], args := [d1, d2, d3, d4] }
  | _ => none }
def IeeeTurnedWrongFalsely : Prop := ieeeTurnedRow.holds Tryd.pinned (OpenSpec.ofChange ieeeTurnedWrong)

/-- 'slipsticklaw05.IeeeOne': WHATEVER THE INPUT: true; the input reads as it did. -/
def ieeeOneSpec : ChangeSpec := { name := "ieeeOne", fn := fun _ => fun
  | [d1, d2, d3, d4] => { results := [.lit (.bool true)], args := [d1, d2, d3, d4] }
  | _ => none }
def ieeeOneRow : OpenClaim := { program := "ytpachoeignpcbaadoor", sum := "4f554c206de33772c0cb82ffd421210f80a579aaf1439f44f545086915e80fd2", func := "slipstick/slipsticklaw05.IeeeOne", spec := "ieeeOne", unfollowed := true, recurses := true, named := ["slipstick/format.forms", "math/bits.deBruijn32tab"], apart := false, laid := [("math/bits.deBruijn32tab", laid_math_bits_deBruijn32tab), ("slipstick/format.forms", laid_slipstick_format_forms)] }
def IeeeOneSaid : Prop := ieeeOneRow.holds Tryd.pinned (OpenSpec.ofChange ieeeOneSpec)

/-- ITS FALSE NEIGHBOUR: 'it returns false'. Refute it at one input. -/
def ieeeOneWrong : ChangeSpec := { name := "ieeeOne", fn := fun _ => fun
  | [d1, d2, d3, d4] => { results := [.lit (.bool false)], args := [d1, d2, d3, d4] }
  | _ => none }
def IeeeOneWrongFalsely : Prop := ieeeOneRow.holds Tryd.pinned (OpenSpec.ofChange ieeeOneWrong)

/-- 'slipsticklaw05.IeeeExact': WHATEVER THE INPUT: true; the input reads as it did. -/
def ieeeExactSpec : ChangeSpec := { name := "ieeeExact", fn := fun _ => fun
  | [d1, d2, d3, d4] => { results := [.lit (.bool true)], args := [d1, d2, d3, d4] }
  | _ => none }
def ieeeExactRow : OpenClaim := { program := "ytpachoeignpcbaadoor", sum := "4f554c206de33772c0cb82ffd421210f80a579aaf1439f44f545086915e80fd2", func := "slipstick/slipsticklaw05.IeeeExact", spec := "ieeeExact", unfollowed := true, recurses := true, named := ["slipstick/format.forms", "math/bits.deBruijn32tab"], apart := false, laid := [("math/bits.deBruijn32tab", laid_math_bits_deBruijn32tab), ("slipstick/format.forms", laid_slipstick_format_forms)] }
def IeeeExactSaid : Prop := ieeeExactRow.holds Tryd.pinned (OpenSpec.ofChange ieeeExactSpec)

/-- ITS FALSE NEIGHBOUR: 'it returns false'. Refute it at one input. -/
def ieeeExactWrong : ChangeSpec := { name := "ieeeExact", fn := fun _ => fun
  | [d1, d2, d3, d4] => { results := [.lit (.bool false)], args := [d1, d2, d3, d4] }
  | _ => none }
def IeeeExactWrongFalsely : Prop := ieeeExactRow.holds Tryd.pinned (OpenSpec.ofChange ieeeExactWrong)

/-- 'slipsticklaw05.IeeeAgain': WHATEVER THE INPUT: true; the input reads as it did. -/
def ieeeAgainSpec : ChangeSpec := { name := "ieeeAgain", fn := fun _ => fun
  | [d1, d2, d3, d4, d5] => { results := [.lit (.bool true)], args := [d1, d2, d3, d4, d5] }
  | _ => none }
def ieeeAgainRow : OpenClaim := { program := "ytpachoeignpcbaadoor", sum := "4f554c206de33772c0cb82ffd421210f80a579aaf1439f44f545086915e80fd2", func := "slipstick/slipsticklaw05.IeeeAgain", spec := "ieeeAgain", unfollowed := true, recurses := true, named := ["slipstick/format.forms", "math/bits.deBruijn32tab"], apart := false, laid := [("math/bits.deBruijn32tab", laid_math_bits_deBruijn32tab), ("slipstick/format.forms", laid_slipstick_format_forms)] }
def IeeeAgainSaid : Prop := ieeeAgainRow.holds Tryd.pinned (OpenSpec.ofChange ieeeAgainSpec)

/-- ITS FALSE NEIGHBOUR: 'it returns false'. Refute it at one input. -/
def ieeeAgainWrong : ChangeSpec := { name := "ieeeAgain", fn := fun _ => fun
  | [d1, d2, d3, d4, d5] => { results := [.lit (.bool false)], args := [d1, d2, d3, d4, d5] }
  | _ => none }
def IeeeAgainWrongFalsely : Prop := ieeeAgainRow.holds Tryd.pinned (OpenSpec.ofChange ieeeAgainWrong)

/-- 'slipsticklaw05.IeeeRises': WHATEVER THE INPUT: true; the input reads as it did. -/
def ieeeRisesSpec : ChangeSpec := { name := "ieeeRises", fn := fun _ => fun
  | [d1, d2, d3, d4, d5] => { results := [.lit (.bool true)], args := [d1, d2, d3, d4, d5] }
  | _ => none }
def ieeeRisesRow : OpenClaim := { program := "ytpachoeignpcbaadoor", sum := "4f554c206de33772c0cb82ffd421210f80a579aaf1439f44f545086915e80fd2", func := "slipstick/slipsticklaw05.IeeeRises", spec := "ieeeRises", unfollowed := true, recurses := true, named := ["slipstick/format.forms", "math/bits.deBruijn32tab"], apart := false, laid := [("math/bits.deBruijn32tab", laid_math_bits_deBruijn32tab), ("slipstick/format.forms", laid_slipstick_format_forms)] }
def IeeeRisesSaid : Prop := ieeeRisesRow.holds Tryd.pinned (OpenSpec.ofChange ieeeRisesSpec)

/-- ITS FALSE NEIGHBOUR: 'it returns false'. Refute it at one input. -/
def ieeeRisesWrong : ChangeSpec := { name := "ieeeRises", fn := fun _ => fun
  | [d1, d2, d3, d4, d5] => { results := [.lit (.bool false)], args := [d1, d2, d3, d4, d5] }
  | _ => none }
def IeeeRisesWrongFalsely : Prop := ieeeRisesRow.holds Tryd.pinned (OpenSpec.ofChange ieeeRisesWrong)

/-- 'slipsticklaw05.IeeeNear': WHATEVER THE INPUT: true; the input reads as it did. -/
def ieeeNearSpec : ChangeSpec := { name := "ieeeNear", fn := fun _ => fun
  | [d1, d2, d3, d4] => { results := [.lit (.bool true)], args := [d1, d2, d3, d4] }
  | _ => none }
def ieeeNearRow : OpenClaim := { program := "ytpachoeignpcbaadoor", sum := "4f554c206de33772c0cb82ffd421210f80a579aaf1439f44f545086915e80fd2", func := "slipstick/slipsticklaw05.IeeeNear", spec := "ieeeNear", unfollowed := true, recurses := true, named := ["slipstick/format.forms", "math/bits.deBruijn32tab"], apart := false, laid := [("math/bits.deBruijn32tab", laid_math_bits_deBruijn32tab), ("slipstick/format.forms", laid_slipstick_format_forms)] }
def IeeeNearSaid : Prop := ieeeNearRow.holds Tryd.pinned (OpenSpec.ofChange ieeeNearSpec)

/-- ITS FALSE NEIGHBOUR: 'it returns false'. Refute it at one input. -/
def ieeeNearWrong : ChangeSpec := { name := "ieeeNear", fn := fun _ => fun
  | [d1, d2, d3, d4] => { results := [.lit (.bool false)], args := [d1, d2, d3, d4] }
  | _ => none }
def IeeeNearWrongFalsely : Prop := ieeeNearRow.holds Tryd.pinned (OpenSpec.ofChange ieeeNearWrong)

/-- 'slipsticklaw05.IeeeUnit': WHATEVER THE INPUT: true; the input reads as it did. -/
def ieeeUnitSpec : ChangeSpec := { name := "ieeeUnit", fn := fun _ => fun
  | [d1, d2, d3] => { results := [.lit (.bool true)], args := [d1, d2, d3] }
  | _ => none }
def ieeeUnitRow : OpenClaim := { program := "ytpachoeignpcbaadoor", sum := "4f554c206de33772c0cb82ffd421210f80a579aaf1439f44f545086915e80fd2", func := "slipstick/slipsticklaw05.IeeeUnit", spec := "ieeeUnit", unfollowed := true, recurses := true, named := ["slipstick/format.forms", "math/bits.deBruijn32tab"], apart := false, laid := [("math/bits.deBruijn32tab", laid_math_bits_deBruijn32tab), ("slipstick/format.forms", laid_slipstick_format_forms)] }
def IeeeUnitSaid : Prop := ieeeUnitRow.holds Tryd.pinned (OpenSpec.ofChange ieeeUnitSpec)

/-- ITS FALSE NEIGHBOUR: 'it returns false'. Refute it at one input. -/
def ieeeUnitWrong : ChangeSpec := { name := "ieeeUnit", fn := fun _ => fun
  | [d1, d2, d3] => { results := [.lit (.bool false)], args := [d1, d2, d3] }
  | _ => none }
def IeeeUnitWrongFalsely : Prop := ieeeUnitRow.holds Tryd.pinned (OpenSpec.ofChange ieeeUnitWrong)

/-- 'slipsticklaw05.IeeeRest': WHATEVER THE INPUT: true; the input reads as it did. -/
def ieeeRestSpec : ChangeSpec := { name := "ieeeRest", fn := fun _ => fun
  | [d1, d2, d3, d4] => { results := [.lit (.bool true)], args := [d1, d2, d3, d4] }
  | _ => none }
def ieeeRestRow : OpenClaim := { program := "ytpachoeignpcbaadoor", sum := "4f554c206de33772c0cb82ffd421210f80a579aaf1439f44f545086915e80fd2", func := "slipstick/slipsticklaw05.IeeeRest", spec := "ieeeRest", unfollowed := true, recurses := true, named := ["slipstick/format.forms", "math/bits.deBruijn32tab"], apart := false, laid := [("math/bits.deBruijn32tab", laid_math_bits_deBruijn32tab), ("slipstick/format.forms", laid_slipstick_format_forms)] }
def IeeeRestSaid : Prop := ieeeRestRow.holds Tryd.pinned (OpenSpec.ofChange ieeeRestSpec)

/-- ITS FALSE NEIGHBOUR: 'it returns false'. Refute it at one input. -/
def ieeeRestWrong : ChangeSpec := { name := "ieeeRest", fn := fun _ => fun
  | [d1, d2, d3, d4] => { results := [.lit (.bool false)], args := [d1, d2, d3, d4] }
  | _ => none }
def IeeeRestWrongFalsely : Prop := ieeeRestRow.holds Tryd.pinned (OpenSpec.ofChange ieeeRestWrong)

/- THE SECOND FORM. 'bulk': how many values and letters a reading holds, each counted each time it is reached (what is shared counts as often as it is met; a slice's spare places count too). A statement '..UptoSaid' is the law's where the arguments, and the package variables that the reading takes, are together of bulk at most 1048576: NARROWER than '..Said'. Prove '..Said' where nothing that the law and all that it calls make is longer than what came in: it says more and counts as full. Else prove '..UptoSaid'. A law counts once. -/
mutual
def uptoBulk {H : Type} : DataW H → Nat
  | .lit (.string bytes) => bytes.length + 1
  | .lit _ => 1
  | .nil => 1
  | .ptr d => uptoBulk d + 1
  | .slice elems spare => uptoBulkAll elems + uptoBulkAll spare + 1
  | .agg parts => uptoBulkAll parts + 1
  | .iface _ d => uptoBulk d + 1
  | .map entries => uptoBulkEntries entries + 1
  | .held _ => 1
def uptoBulkAll {H : Type} : List (DataW H) → Nat
  | [] => 0
  | d :: r => uptoBulk d + uptoBulkAll r
def uptoBulkEntries {H : Type} : List (Lit × DataW H) → Nat
  | [] => 0
  | x :: r => uptoBulkEntry x + uptoBulkEntries r
def uptoBulkEntry {H : Type} : Lit × DataW H → Nat
  | (.string bytes, d) => bytes.length + uptoBulk d + 1
  | (_, d) => uptoBulk d + 1
 end
def uptoSmall : (H : Type) → List (DataW H) → Bool := fun _ ds => decide (uptoBulkAll ds ≤ 1048576)
def OpenSpec.upto (s : _root_.Go.ChangeSpec) : _root_.Go.OpenSpec := { _root_.Go.OpenSpec.ofChange s with cond := some uptoSmall }

/-- 'slipsticklaw05.IeeeTurned', WHERE WHAT IT READS IS OF BULK AT MOST 1048576: true; the input reads as it did. -/
def ieeeTurnedUptoRow : OpenClaim := { program := "ytpachoeignpcbaadoor", sum := "4f554c206de33772c0cb82ffd421210f80a579aaf1439f44f545086915e80fd2", func := "slipstick/slipsticklaw05.IeeeTurned", spec := "ieeeTurned", unfollowed := true, recurses := true, named := ["slipstick/format.forms", "math/bits.deBruijn32tab"], apart := false, laid := [("math/bits.deBruijn32tab", laid_math_bits_deBruijn32tab), ("slipstick/format.forms", laid_slipstick_format_forms)], narrowed := true }
def IeeeTurnedUptoSaid : Prop := ieeeTurnedUptoRow.holds Tryd.pinned (OpenSpec.upto ieeeTurnedSpec)

/-- 'slipsticklaw05.IeeeOne', WHERE WHAT IT READS IS OF BULK AT MOST 1048576: true; the input reads as it did. -/
def ieeeOneUptoRow : OpenClaim := { program := "ytpachoeignpcbaadoor", sum := "4f554c206de33772c0cb82ffd421210f80a579aaf1439f44f545086915e80fd2", func := "slipstick/slipsticklaw05.IeeeOne", spec := "ieeeOne", unfollowed := true, recurses := true, named := ["slipstick/format.forms", "math/bits.deBruijn32tab"], apart := false, laid := [("math/bits.deBruijn32tab", laid_math_bits_deBruijn32tab), ("slipstick/format.forms", laid_slipstick_format_forms)], narrowed := true }
def IeeeOneUptoSaid : Prop := ieeeOneUptoRow.holds Tryd.pinned (OpenSpec.upto ieeeOneSpec)

/-- 'slipsticklaw05.IeeeExact', WHERE WHAT IT READS IS OF BULK AT MOST 1048576: true; the input reads as it did. -/
def ieeeExactUptoRow : OpenClaim := { program := "ytpachoeignpcbaadoor", sum := "4f554c206de33772c0cb82ffd421210f80a579aaf1439f44f545086915e80fd2", func := "slipstick/slipsticklaw05.IeeeExact", spec := "ieeeExact", unfollowed := true, recurses := true, named := ["slipstick/format.forms", "math/bits.deBruijn32tab"], apart := false, laid := [("math/bits.deBruijn32tab", laid_math_bits_deBruijn32tab), ("slipstick/format.forms", laid_slipstick_format_forms)], narrowed := true }
def IeeeExactUptoSaid : Prop := ieeeExactUptoRow.holds Tryd.pinned (OpenSpec.upto ieeeExactSpec)

/-- 'slipsticklaw05.IeeeAgain', WHERE WHAT IT READS IS OF BULK AT MOST 1048576: true; the input reads as it did. -/
def ieeeAgainUptoRow : OpenClaim := { program := "ytpachoeignpcbaadoor", sum := "4f554c206de33772c0cb82ffd421210f80a579aaf1439f44f545086915e80fd2", func := "slipstick/slipsticklaw05.IeeeAgain", spec := "ieeeAgain", unfollowed := true, recurses := true, named := ["slipstick/format.forms", "math/bits.deBruijn32tab"], apart := false, laid := [("math/bits.deBruijn32tab", laid_math_bits_deBruijn32tab), ("slipstick/format.forms", laid_slipstick_format_forms)], narrowed := true }
def IeeeAgainUptoSaid : Prop := ieeeAgainUptoRow.holds Tryd.pinned (OpenSpec.upto ieeeAgainSpec)

/-- 'slipsticklaw05.IeeeRises', WHERE WHAT IT READS IS OF BULK AT MOST 1048576: true; the input reads as it did. -/
def ieeeRisesUptoRow : OpenClaim := { program := "ytpachoeignpcbaadoor", sum := "4f554c206de33772c0cb82ffd421210f80a579aaf1439f44f545086915e80fd2", func := "slipstick/slipsticklaw05.IeeeRises", spec := "ieeeRises", unfollowed := true, recurses := true, named := ["slipstick/format.forms", "math/bits.deBruijn32tab"], apart := false, laid := [("math/bits.deBruijn32tab", laid_math_bits_deBruijn32tab), ("slipstick/format.forms", laid_slipstick_format_forms)], narrowed := true }
def IeeeRisesUptoSaid : Prop := ieeeRisesUptoRow.holds Tryd.pinned (OpenSpec.upto ieeeRisesSpec)

/-- 'slipsticklaw05.IeeeNear', WHERE WHAT IT READS IS OF BULK AT MOST 1048576: true; the input reads as it did. -/
def ieeeNearUptoRow : OpenClaim := { program := "ytpachoeignpcbaadoor", sum := "4f554c206de33772c0cb82ffd421210f80a579aaf1439f44f545086915e80fd2", func := "slipstick/slipsticklaw05.IeeeNear", spec := "ieeeNear", unfollowed := true, recurses := true, named := ["slipstick/format.forms", "math/bits.deBruijn32tab"], apart := false, laid := [("math/bits.deBruijn32tab", laid_math_bits_deBruijn32tab), ("slipstick/format.forms", laid_slipstick_format_forms)], narrowed := true }
def IeeeNearUptoSaid : Prop := ieeeNearUptoRow.holds Tryd.pinned (OpenSpec.upto ieeeNearSpec)

/-- 'slipsticklaw05.IeeeUnit', WHERE WHAT IT READS IS OF BULK AT MOST 1048576: true; the input reads as it did. -/
def ieeeUnitUptoRow : OpenClaim := { program := "ytpachoeignpcbaadoor", sum := "4f554c206de33772c0cb82ffd421210f80a579aaf1439f44f545086915e80fd2", func := "slipstick/slipsticklaw05.IeeeUnit", spec := "ieeeUnit", unfollowed := true, recurses := true, named := ["slipstick/format.forms", "math/bits.deBruijn32tab"], apart := false, laid := [("math/bits.deBruijn32tab", laid_math_bits_deBruijn32tab), ("slipstick/format.forms", laid_slipstick_format_forms)], narrowed := true }
def IeeeUnitUptoSaid : Prop := ieeeUnitUptoRow.holds Tryd.pinned (OpenSpec.upto ieeeUnitSpec)

/-- 'slipsticklaw05.IeeeRest', WHERE WHAT IT READS IS OF BULK AT MOST 1048576: true; the input reads as it did. -/
def ieeeRestUptoRow : OpenClaim := { program := "ytpachoeignpcbaadoor", sum := "4f554c206de33772c0cb82ffd421210f80a579aaf1439f44f545086915e80fd2", func := "slipstick/slipsticklaw05.IeeeRest", spec := "ieeeRest", unfollowed := true, recurses := true, named := ["slipstick/format.forms", "math/bits.deBruijn32tab"], apart := false, laid := [("math/bits.deBruijn32tab", laid_math_bits_deBruijn32tab), ("slipstick/format.forms", laid_slipstick_format_forms)], narrowed := true }
def IeeeRestUptoSaid : Prop := ieeeRestUptoRow.holds Tryd.pinned (OpenSpec.upto ieeeRestSpec)

end Rows
end Go.Proofs.YtpachoeignpcbaaDoor
