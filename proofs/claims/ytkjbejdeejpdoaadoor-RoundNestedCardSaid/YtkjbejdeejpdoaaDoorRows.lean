/-
  NARROWER THAN 'FOR EVERY INPUT', by the rows' own cells (each row's printed sentence says how): RoundNears: laid · RoundKeeps: laid · RoundRises: laid · RoundTurns: laid · RoundHalf: laid · RoundNested: laid.
  DERIVED. THE GIVEN ROWS OF THIS SEAT. 6 by the template 'for every input the law returns true; each argument reads behind the call as it read before'; 0 by the template 'total and deterministic' (their statements: YtkjbejdeejpdoaaDoorTotals.lean).
  GIVEN WITH THE SEED: the statements are not yours to turn. If you find one false, say at which input.
  Laid BY PROGRAM, IN A SANDBOX (cutbox-rows.mjs): the forced cells as the released guide's own fill.sh prints them over the translation 94fe821c7262a741… (all of the seat's roots in one cut). By AI agents, Wed Nov 11 2026. No macro, syntax, notation, axiom, sorry.
-/
import Derived.Test.YtkjbejdeejpdoaaDoorChecked
import GoSem.Claim
import GoSem.ClaimJoined
import GoSem.ClaimMapViews
import Derived.JoinedTies
import Derived.KernelRfl
namespace Go.Proofs.YtkjbejdeejpdoaaDoor
/- THE CELL 'sum', in the pinned program and in every row, IS THE sha256 OF THE DUMP (.gsa) THAT YtkjbejdeejpdoaaDoorProg.lean LOADS. Nothing in Lean hashes anything: it is a label: what it is worth is what the hold of that sum in a sandbox is worth. -/
noncomputable def Tryd.pinned : Pinned := { name := "ytkjbejdeejpdoaadoor", sum := "94fe821c7262a7413c6074d082169b2825d80e9c9afb0f85b86155ee81658865", checked := Tryd.checked }
namespace Rows
def none {H : Type} : Left H := { results := [], args := [] }

/- WHAT THE LISTED PACKAGE-LEVEL VARIABLES READ AS WHEN THE CALL BEGINS. Each datum BY PROGRAM (the guide's laid-datum.mjs) off the statement by which the dump's own 'gosem.cut.vars' lays the variable. In a bare row this is a premise. The card (YtkjbejdeejpdoaaDoorCards.lean) ties it to the program's text. -/
def laid_math_bits_deBruijn32tab {H : Type} : DataW H := .agg [.lit (.int .u8 0), .lit (.int .u8 1), .lit (.int .u8 28), .lit (.int .u8 2), .lit (.int .u8 29), .lit (.int .u8 14), .lit (.int .u8 24), .lit (.int .u8 3), .lit (.int .u8 30), .lit (.int .u8 22), .lit (.int .u8 20), .lit (.int .u8 15), .lit (.int .u8 25), .lit (.int .u8 17), .lit (.int .u8 4), .lit (.int .u8 8), .lit (.int .u8 31), .lit (.int .u8 27), .lit (.int .u8 13), .lit (.int .u8 23), .lit (.int .u8 21), .lit (.int .u8 19), .lit (.int .u8 16), .lit (.int .u8 7), .lit (.int .u8 26), .lit (.int .u8 12), .lit (.int .u8 18), .lit (.int .u8 6), .lit (.int .u8 11), .lit (.int .u8 5), .lit (.int .u8 10), .lit (.int .u8 9)]
def laid_slipstick_format_forms {H : Type} : DataW H := .agg [.agg [.lit (.int .i64 16), .lit (.int .i64 11), .lit (.int .i64 5)], .agg [.lit (.int .i64 32), .lit (.int .i64 24), .lit (.int .i64 8)], .agg [.lit (.int .i64 64), .lit (.int .i64 53), .lit (.int .i64 11)]]

/-- 'slipsticklaw04.RoundNears': WHATEVER THE INPUT: true; the input reads as it did. -/
def roundNearsSpec : ChangeSpec := { name := "roundNears", fn := fun _ => fun
  | [d1, d2] => { results := [.lit (.bool true)], args := [d1, d2] }
  | _ => none }
def roundNearsRow : OpenClaim := { program := "ytkjbejdeejpdoaadoor", sum := "94fe821c7262a7413c6074d082169b2825d80e9c9afb0f85b86155ee81658865", func := "slipstick/slipsticklaw04.RoundNears", spec := "roundNears", unfollowed := true, recurses := true, named := ["slipstick/format.forms", "math/bits.deBruijn32tab"], apart := false, laid := [("math/bits.deBruijn32tab", laid_math_bits_deBruijn32tab), ("slipstick/format.forms", laid_slipstick_format_forms)] }
def RoundNearsSaid : Prop := roundNearsRow.holds Tryd.pinned (OpenSpec.ofChange roundNearsSpec)

/-- ITS FALSE NEIGHBOUR: 'it returns false'. Refute it at one input. -/
def roundNearsWrong : ChangeSpec := { name := "roundNears", fn := fun _ => fun
  | [d1, d2] => { results := [.lit (.bool false)], args := [d1, d2] }
  | _ => none }
def RoundNearsWrongFalsely : Prop := roundNearsRow.holds Tryd.pinned (OpenSpec.ofChange roundNearsWrong)

/-- 'slipsticklaw04.RoundKeeps': WHATEVER THE INPUT: true; the input reads as it did. -/
def roundKeepsSpec : ChangeSpec := { name := "roundKeeps", fn := fun _ => fun
  | [d1, d2] => { results := [.lit (.bool true)], args := [d1, d2] }
  | _ => none }
def roundKeepsRow : OpenClaim := { program := "ytkjbejdeejpdoaadoor", sum := "94fe821c7262a7413c6074d082169b2825d80e9c9afb0f85b86155ee81658865", func := "slipstick/slipsticklaw04.RoundKeeps", spec := "roundKeeps", unfollowed := true, recurses := true, named := ["slipstick/format.forms", "math/bits.deBruijn32tab"], apart := false, laid := [("math/bits.deBruijn32tab", laid_math_bits_deBruijn32tab), ("slipstick/format.forms", laid_slipstick_format_forms)] }
def RoundKeepsSaid : Prop := roundKeepsRow.holds Tryd.pinned (OpenSpec.ofChange roundKeepsSpec)

/-- ITS FALSE NEIGHBOUR: 'it returns false'. Refute it at one input. -/
def roundKeepsWrong : ChangeSpec := { name := "roundKeeps", fn := fun _ => fun
  | [d1, d2] => { results := [.lit (.bool false)], args := [d1, d2] }
  | _ => none }
def RoundKeepsWrongFalsely : Prop := roundKeepsRow.holds Tryd.pinned (OpenSpec.ofChange roundKeepsWrong)

/-- 'slipsticklaw04.RoundRises': WHATEVER THE INPUT: true; the input reads as it did. -/
def roundRisesSpec : ChangeSpec := { name := "roundRises", fn := fun _ => fun
  | [d1, d2, d3, d4] => { results := [.lit (.bool true)], args := [d1, d2, d3, d4] }
  | _ => none }
def roundRisesRow : OpenClaim := { program := "ytkjbejdeejpdoaadoor", sum := "94fe821c7262a7413c6074d082169b2825d80e9c9afb0f85b86155ee81658865", func := "slipstick/slipsticklaw04.RoundRises", spec := "roundRises", unfollowed := true, recurses := true, named := ["slipstick/format.forms", "math/bits.deBruijn32tab"], apart := false, laid := [("math/bits.deBruijn32tab", laid_math_bits_deBruijn32tab), ("slipstick/format.forms", laid_slipstick_format_forms)] }
def RoundRisesSaid : Prop := roundRisesRow.holds Tryd.pinned (OpenSpec.ofChange roundRisesSpec)

/-- ITS FALSE NEIGHBOUR: 'it returns false'. Refute it at one input. -/
def roundRisesWrong : ChangeSpec := { name := "roundRises", fn := fun _ => fun
  | [d1, d2, d3, d4] => { results := [.lit (.bool false)], args := [d1, d2, d3, d4] }
  | _ => none }
def RoundRisesWrongFalsely : Prop := roundRisesRow.holds Tryd.pinned (OpenSpec.ofChange roundRisesWrong)

/-- 'slipsticklaw04.RoundTurns': WHATEVER THE INPUT: true; the input reads as it did. -/
def roundTurnsSpec : ChangeSpec := { name := "roundTurns", fn := fun _ => fun
  | [d1, d2, d3] => { results := [.lit (.bool true)], args := [d1, d2, d3] }
  | _ => none }
def roundTurnsRow : OpenClaim := { program := "ytkjbejdeejpdoaadoor", sum := "94fe821c7262a7413c6074d082169b2825d80e9c9afb0f85b86155ee81658865", func := "slipstick/slipsticklaw04.RoundTurns", spec := "roundTurns", unfollowed := true, recurses := true, named := ["slipstick/format.forms", "math/bits.deBruijn32tab"], apart := false, laid := [("math/bits.deBruijn32tab", laid_math_bits_deBruijn32tab), ("slipstick/format.forms", laid_slipstick_format_forms)] }
def RoundTurnsSaid : Prop := roundTurnsRow.holds Tryd.pinned (OpenSpec.ofChange roundTurnsSpec)

/-- ITS FALSE NEIGHBOUR: 'it returns false'. Refute it at one input. -/
def roundTurnsWrong : ChangeSpec := { name := "roundTurns", fn := fun _ => fun
  | [d1, d2, d3] => { results := [.lit (.bool false)], args := [d1, d2, d3] }
  | _ => none }
def RoundTurnsWrongFalsely : Prop := roundTurnsRow.holds Tryd.pinned (OpenSpec.ofChange roundTurnsWrong)

/-- 'slipsticklaw04.RoundHalf': WHATEVER THE INPUT: true; the input reads as it did. -/
def roundHalfSpec : ChangeSpec := { name := "roundHalf", fn := fun _ => fun
  | [d1, d2, d3] => { results := [.lit (.bool true)], args := [d1, d2, d3] }
  | _ => none }
def roundHalfRow : OpenClaim := { program := "ytkjbejdeejpdoaadoor", sum := "94fe821c7262a7413c6074d082169b2825d80e9c9afb0f85b86155ee81658865", func := "slipstick/slipsticklaw04.RoundHalf", spec := "roundHalf", unfollowed := true, recurses := true, named := ["slipstick/format.forms", "math/bits.deBruijn32tab"], apart := false, laid := [("math/bits.deBruijn32tab", laid_math_bits_deBruijn32tab), ("slipstick/format.forms", laid_slipstick_format_forms)] }
def RoundHalfSaid : Prop := roundHalfRow.holds Tryd.pinned (OpenSpec.ofChange roundHalfSpec)

/-- ITS FALSE NEIGHBOUR: 'it returns false'. Refute it at one input. -/
def roundHalfWrong : ChangeSpec := { name := "roundHalf", fn := fun _ => fun
  | [d1, d2, d3] => { results := [.lit (.bool false)], args := [d1, d2, d3] }
  | _ => none }
def RoundHalfWrongFalsely : Prop := roundHalfRow.holds Tryd.pinned (OpenSpec.ofChange roundHalfWrong)

/-- 'slipsticklaw04.RoundNested': WHATEVER THE INPUT: true; the input reads as it did. -/
def roundNestedSpec : ChangeSpec := { name := "roundNested", fn := fun _ => fun
  | [d1, d2] => { results := [.lit (.bool true)], args := [d1, d2] }
  | _ => none }
def roundNestedRow : OpenClaim := { program := "ytkjbejdeejpdoaadoor", sum := "94fe821c7262a7413c6074d082169b2825d80e9c9afb0f85b86155ee81658865", func := "slipstick/slipsticklaw04.RoundNested", spec := "roundNested", unfollowed := true, recurses := true, named := ["slipstick/format.forms", "math/bits.deBruijn32tab"], apart := false, laid := [("math/bits.deBruijn32tab", laid_math_bits_deBruijn32tab), ("slipstick/format.forms", laid_slipstick_format_forms)] }
def RoundNestedSaid : Prop := roundNestedRow.holds Tryd.pinned (OpenSpec.ofChange roundNestedSpec)

/-- ITS FALSE NEIGHBOUR: 'it returns false'. Refute it at one input. -/
def roundNestedWrong : ChangeSpec := { name := "roundNested", fn := fun _ => fun
  | [d1, d2] => { results := [.lit (.bool false)], args := [d1, d2] }
  | _ => none }
def RoundNestedWrongFalsely : Prop := roundNestedRow.holds Tryd.pinned (OpenSpec.ofChange roundNestedWrong)

/- THE SECOND FORM. 'bulk': how many values and letters a reading holds, each counted each time it is reached (what is shared counts as often as it is met; a slice's spare places count too). A statement '..UptoSaid' is the law's where the arguments, and the package variables that the reading takes, are together of bulk at most 1048576: NARROWER than '..Said'. Prove '..Said' where nothing that the law and all that it calls make is longer than what came in: it says more and counts as full. Else prove '..UptoSaid'. A law counts once. -/
mutual
def uptoBulk {H : Type} : DataW H → Nat
  | .lit (.string bytes) => bytes.length + 1
  | .lit _ => 1
  | .nil => 1
  | .ptr d => uptoBulk d + 1
  | .slice elems spare => uptoBulkAll elems + uptoBulkAll spare + 1
  | .agg parts => uptoBulkAll parts + 1
  | .iface _ d => uptoBulk d + 1
  | .map entries => uptoBulkEntries entries + 1
  | .held _ => 1
def uptoBulkAll {H : Type} : List (DataW H) → Nat
  | [] => 0
  | d :: r => uptoBulk d + uptoBulkAll r
def uptoBulkEntries {H : Type} : List (Lit × DataW H) → Nat
  | [] => 0
  | x :: r => uptoBulkEntry x + uptoBulkEntries r
def uptoBulkEntry {H : Type} : Lit × DataW H → Nat
  | (.string bytes, d) => bytes.length + uptoBulk d + 1
  | (_, d) => uptoBulk d + 1
 end
def uptoSmall : (H : Type) → List (DataW H) → Bool := fun _ ds => decide (uptoBulkAll ds ≤ 1048576)
def OpenSpec.upto (s : _root_.Go.ChangeSpec) : _root_.Go.OpenSpec := { _root_.Go.OpenSpec.ofChange s with cond := some uptoSmall }

/-- 'slipsticklaw04.RoundNears', WHERE WHAT IT READS IS OF BULK AT MOST 1048576: true; the input reads as it did. -/
def roundNearsUptoRow : OpenClaim := { program := "ytkjbejdeejpdoaadoor", sum := "94fe821c7262a7413c6074d082169b2825d80e9c9afb0f85b86155ee81658865", func := "slipstick/slipsticklaw04.RoundNears", spec := "roundNears", unfollowed := true, recurses := true, named := ["slipstick/format.forms", "math/bits.deBruijn32tab"], apart := false, laid := [("math/bits.deBruijn32tab", laid_math_bits_deBruijn32tab), ("slipstick/format.forms", laid_slipstick_format_forms)], narrowed := true }
def RoundNearsUptoSaid : Prop := roundNearsUptoRow.holds Tryd.pinned (OpenSpec.upto roundNearsSpec)

/-- 'slipsticklaw04.RoundKeeps', WHERE WHAT IT READS IS OF BULK AT MOST 1048576: true; the input reads as it did. -/
def roundKeepsUptoRow : OpenClaim := { program := "ytkjbejdeejpdoaadoor", sum := "94fe821c7262a7413c6074d082169b2825d80e9c9afb0f85b86155ee81658865", func := "slipstick/slipsticklaw04.RoundKeeps", spec := "roundKeeps", unfollowed := true, recurses := true, named := ["slipstick/format.forms", "math/bits.deBruijn32tab"], apart := false, laid := [("math/bits.deBruijn32tab", laid_math_bits_deBruijn32tab), ("slipstick/format.forms", laid_slipstick_format_forms)], narrowed := true }
def RoundKeepsUptoSaid : Prop := roundKeepsUptoRow.holds Tryd.pinned (OpenSpec.upto roundKeepsSpec)

/-- 'slipsticklaw04.RoundRises', WHERE WHAT IT READS IS OF BULK AT MOST 1048576: true; the input reads as it did. -/
def roundRisesUptoRow : OpenClaim := { program := "ytkjbejdeejpdoaadoor", sum := "94fe821c7262a7413c6074d082169b2825d80e9c9afb0f85b86155ee81658865", func := "slipstick/slipsticklaw04.RoundRises", spec := "roundRises", unfollowed := true, recurses := true, named := ["slipstick/format.forms", "math/bits.deBruijn32tab"], apart := false, laid := [("math/bits.deBruijn32tab", laid_math_bits_deBruijn32tab), ("slipstick/format.forms", laid_slipstick_format_forms)], narrowed := true }
def RoundRisesUptoSaid : Prop := roundRisesUptoRow.holds Tryd.pinned (OpenSpec.upto roundRisesSpec)

/-- 'slipsticklaw04.RoundTurns', WHERE WHAT IT READS IS OF BULK AT MOST 1048576: true; the input reads as it did. -/
def roundTurnsUptoRow : OpenClaim := { program := "ytkjbejdeejpdoaadoor", sum := "94fe821c7262a7413c6074d082169b2825d80e9c9afb0f85b86155ee81658865", func := "slipstick/slipsticklaw04.RoundTurns", spec := "roundTurns", unfollowed := true, recurses := true, named := ["slipstick/format.forms", "math/bits.deBruijn32tab"], apart := false, laid := [("math/bits.deBruijn32tab", laid_math_bits_deBruijn32tab), ("slipstick/format.forms", laid_slipstick_format_forms)], narrowed := true }
def RoundTurnsUptoSaid : Prop := roundTurnsUptoRow.holds Tryd.pinned (OpenSpec.upto roundTurnsSpec)

/-- 'slipsticklaw04.RoundHalf', WHERE WHAT IT READS IS OF BULK AT MOST 1048576: true; the input reads as it did. -/
def roundHalfUptoRow : OpenClaim := { program := "ytkjbejdeejpdoaadoor", sum := "94fe821c7262a7413c6074d082169b2825d80e9c9afb0f85b86155ee81658865", func := "slipstick/slipsticklaw04.RoundHalf", spec := "roundHalf", unfollowed := true, recurses := true, named := ["slipstick/format.forms", "math/bits.deBruijn32tab"], apart := false, laid := [("math/bits.deBruijn32tab", laid_math_bits_deBruijn32tab), ("slipstick/format.forms", laid_slipstick_format_forms)], narrowed := true }
def RoundHalfUptoSaid : Prop := roundHalfUptoRow.holds Tryd.pinned (OpenSpec.upto roundHalfSpec)

/-- 'slipsticklaw04.RoundNested', WHERE WHAT IT READS IS OF BULK AT MOST 1048576: true; the input reads as it did. -/
def roundNestedUptoRow : OpenClaim := { program := "ytkjbejdeejpdoaadoor", sum := "94fe821c7262a7413c6074d082169b2825d80e9c9afb0f85b86155ee81658865", func := "slipstick/slipsticklaw04.RoundNested", spec := "roundNested", unfollowed := true, recurses := true, named := ["slipstick/format.forms", "math/bits.deBruijn32tab"], apart := false, laid := [("math/bits.deBruijn32tab", laid_math_bits_deBruijn32tab), ("slipstick/format.forms", laid_slipstick_format_forms)], narrowed := true }
def RoundNestedUptoSaid : Prop := roundNestedUptoRow.holds Tryd.pinned (OpenSpec.upto roundNestedSpec)

end Rows
end Go.Proofs.YtkjbejdeejpdoaaDoor
