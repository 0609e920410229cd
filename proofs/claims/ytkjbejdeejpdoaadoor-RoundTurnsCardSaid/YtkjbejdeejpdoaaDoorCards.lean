/-
  DERIVED. GIVEN WITH THE SEED: THE CARDS: each row of YtkjbejdeejpdoaaDoorRows.lean that lists a variable, with what it lists TIED to the program's text (the seventh form; the later family's looks); each row that meets fmt, with fmt's text TOLD by the authors' own Lean function (tested against real Go, not proved from fmt's source: count such statements apart). THE CARD IS WHAT COUNTS. Prove the row's statement (the work); the ties are given (YtkjbejdeejpdoaaDoorTie.lean); close each card by the builder's one call (the guide's Derived/Test/ToyasCard.lean, 'card_holds'). Laid BY PROGRAM, IN A SANDBOX (cutbox-door.mjs). By AI agents, Wed Nov 11 2026. No macro, syntax, notation, axiom, sorry.
-/
import Derived.Test.YtkjbejdeejpdoaaDoorRows
import GoSem.ClaimSeven
namespace Go.Proofs.YtkjbejdeejpdoaaDoor
namespace Rows

/-- THE TIED CARD OF 'slipsticklaw04.RoundNears'. -/
def roundNearsCard : Claim7 := { stood := { row := roundNearsRow, standIns := [], harness := (true, "baa5a7582e1ddd10c564a2094198a788c512d612e92d5b24f31e0450d88a563b"), looks := false }, kinds := [], alts := [], laidByText := true, laidKinds := [.data, .data], laidTests := true, laidLooks := .later }
def RoundNearsCardSaid : Prop := Claim7.holds Tryd.pinned (.plain (OpenSpec.ofChange roundNearsSpec)) roundNearsCard

/-- THE TIED CARD OF 'slipsticklaw04.RoundKeeps'. -/
def roundKeepsCard : Claim7 := { stood := { row := roundKeepsRow, standIns := [], harness := (true, "baa5a7582e1ddd10c564a2094198a788c512d612e92d5b24f31e0450d88a563b"), looks := false }, kinds := [], alts := [], laidByText := true, laidKinds := [.data, .data], laidTests := true, laidLooks := .later }
def RoundKeepsCardSaid : Prop := Claim7.holds Tryd.pinned (.plain (OpenSpec.ofChange roundKeepsSpec)) roundKeepsCard

/-- THE TIED CARD OF 'slipsticklaw04.RoundRises'. -/
def roundRisesCard : Claim7 := { stood := { row := roundRisesRow, standIns := [], harness := (true, "baa5a7582e1ddd10c564a2094198a788c512d612e92d5b24f31e0450d88a563b"), looks := false }, kinds := [], alts := [], laidByText := true, laidKinds := [.data, .data], laidTests := true, laidLooks := .later }
def RoundRisesCardSaid : Prop := Claim7.holds Tryd.pinned (.plain (OpenSpec.ofChange roundRisesSpec)) roundRisesCard

/-- THE TIED CARD OF 'slipsticklaw04.RoundTurns'. -/
def roundTurnsCard : Claim7 := { stood := { row := roundTurnsRow, standIns := [], harness := (true, "baa5a7582e1ddd10c564a2094198a788c512d612e92d5b24f31e0450d88a563b"), looks := false }, kinds := [], alts := [], laidByText := true, laidKinds := [.data, .data], laidTests := true, laidLooks := .later }
def RoundTurnsCardSaid : Prop := Claim7.holds Tryd.pinned (.plain (OpenSpec.ofChange roundTurnsSpec)) roundTurnsCard

/-- THE TIED CARD OF 'slipsticklaw04.RoundHalf'. -/
def roundHalfCard : Claim7 := { stood := { row := roundHalfRow, standIns := [], harness := (true, "baa5a7582e1ddd10c564a2094198a788c512d612e92d5b24f31e0450d88a563b"), looks := false }, kinds := [], alts := [], laidByText := true, laidKinds := [.data, .data], laidTests := true, laidLooks := .later }
def RoundHalfCardSaid : Prop := Claim7.holds Tryd.pinned (.plain (OpenSpec.ofChange roundHalfSpec)) roundHalfCard

/-- THE TIED CARD OF 'slipsticklaw04.RoundNested'. -/
def roundNestedCard : Claim7 := { stood := { row := roundNestedRow, standIns := [], harness := (true, "baa5a7582e1ddd10c564a2094198a788c512d612e92d5b24f31e0450d88a563b"), looks := false }, kinds := [], alts := [], laidByText := true, laidKinds := [.data, .data], laidTests := true, laidLooks := .later }
def RoundNestedCardSaid : Prop := Claim7.holds Tryd.pinned (.plain (OpenSpec.ofChange roundNestedSpec)) roundNestedCard

/-- THE SECOND FORM's CARD OF 'slipsticklaw04.RoundNears'. -/
def roundNearsUptoCard : Claim7 := { stood := { row := roundNearsUptoRow, standIns := [], harness := (true, "baa5a7582e1ddd10c564a2094198a788c512d612e92d5b24f31e0450d88a563b"), looks := false }, kinds := [], alts := [], laidByText := true, laidKinds := [.data, .data], laidTests := true, laidLooks := .later }
def RoundNearsUptoCardSaid : Prop := Claim7.holds Tryd.pinned (.plain (OpenSpec.upto roundNearsSpec)) roundNearsUptoCard

/-- THE SECOND FORM's CARD OF 'slipsticklaw04.RoundKeeps'. -/
def roundKeepsUptoCard : Claim7 := { stood := { row := roundKeepsUptoRow, standIns := [], harness := (true, "baa5a7582e1ddd10c564a2094198a788c512d612e92d5b24f31e0450d88a563b"), looks := false }, kinds := [], alts := [], laidByText := true, laidKinds := [.data, .data], laidTests := true, laidLooks := .later }
def RoundKeepsUptoCardSaid : Prop := Claim7.holds Tryd.pinned (.plain (OpenSpec.upto roundKeepsSpec)) roundKeepsUptoCard

/-- THE SECOND FORM's CARD OF 'slipsticklaw04.RoundRises'. -/
def roundRisesUptoCard : Claim7 := { stood := { row := roundRisesUptoRow, standIns := [], harness := (true, "baa5a7582e1ddd10c564a2094198a788c512d612e92d5b24f31e0450d88a563b"), looks := false }, kinds := [], alts := [], laidByText := true, laidKinds := [.data, .data], laidTests := true, laidLooks := .later }
def RoundRisesUptoCardSaid : Prop := Claim7.holds Tryd.pinned (.plain (OpenSpec.upto roundRisesSpec)) roundRisesUptoCard

/-- THE SECOND FORM's CARD OF 'slipsticklaw04.RoundTurns'. -/
def roundTurnsUptoCard : Claim7 := { stood := { row := roundTurnsUptoRow, standIns := [], harness := (true, "baa5a7582e1ddd10c564a2094198a788c512d612e92d5b24f31e0450d88a563b"), looks := false }, kinds := [], alts := [], laidByText := true, laidKinds := [.data, .data], laidTests := true, laidLooks := .later }
def RoundTurnsUptoCardSaid : Prop := Claim7.holds Tryd.pinned (.plain (OpenSpec.upto roundTurnsSpec)) roundTurnsUptoCard

/-- THE SECOND FORM's CARD OF 'slipsticklaw04.RoundHalf'. -/
def roundHalfUptoCard : Claim7 := { stood := { row := roundHalfUptoRow, standIns := [], harness := (true, "baa5a7582e1ddd10c564a2094198a788c512d612e92d5b24f31e0450d88a563b"), looks := false }, kinds := [], alts := [], laidByText := true, laidKinds := [.data, .data], laidTests := true, laidLooks := .later }
def RoundHalfUptoCardSaid : Prop := Claim7.holds Tryd.pinned (.plain (OpenSpec.upto roundHalfSpec)) roundHalfUptoCard

/-- THE SECOND FORM's CARD OF 'slipsticklaw04.RoundNested'. -/
def roundNestedUptoCard : Claim7 := { stood := { row := roundNestedUptoRow, standIns := [], harness := (true, "baa5a7582e1ddd10c564a2094198a788c512d612e92d5b24f31e0450d88a563b"), looks := false }, kinds := [], alts := [], laidByText := true, laidKinds := [.data, .data], laidTests := true, laidLooks := .later }
def RoundNestedUptoCardSaid : Prop := Claim7.holds Tryd.pinned (.plain (OpenSpec.upto roundNestedSpec)) roundNestedUptoCard
end Rows
end Go.Proofs.YtkjbejdeejpdoaaDoor
