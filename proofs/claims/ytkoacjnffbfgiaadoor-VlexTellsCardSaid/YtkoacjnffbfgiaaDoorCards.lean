/-
  DERIVED. GIVEN WITH THE SEED: THE CARDS: each row of YtkoacjnffbfgiaaDoorRows.lean that lists a variable, with what it lists TIED to the program's text (the seventh form; the later family's looks); each row that meets fmt, with fmt's text TOLD by the authors' own Lean function (tested against real Go, not proved from fmt's source: count such statements apart). THE CARD IS WHAT COUNTS. Prove the row's statement (the work); the ties are given (YtkoacjnffbfgiaaDoorTie.lean); close each card by the builder's one call (the guide's Derived/Test/ToyasCard.lean, 'card_holds'). Laid BY PROGRAM, IN A SANDBOX (cutbox-door.mjs). By AI agents, Wed Nov 11 2026. No macro, syntax, notation, axiom, sorry.
-/
import Derived.Test.YtkoacjnffbfgiaaDoorRows
import GoSem.ClaimSeven
namespace Go.Proofs.YtkoacjnffbfgiaaDoor
namespace Rows

/-- THE TIED CARD OF 'slipsticklaw24.VlexTells'. -/
def vlexTellsCard : Claim7 := { stood := { row := vlexTellsRow, standIns := [], harness := (true, "987e1a7eed62a88d7497f75b0fe5bd4d8c922ddacf7d5f236cc27521b774774f"), looks := true }, kinds := [], alts := [], laidByText := true, laidKinds := [.data, .data, .data, .sentinel, .sentinel], laidTests := true, laidLooks := .later }
def VlexTellsCardSaid : Prop := Claim7.holds Tryd.pinned (.plain (OpenSpec.ofChange vlexTellsSpec)) vlexTellsCard

/-- THE TIED CARD OF 'slipsticklaw24.VlexBack'. -/
def vlexBackCard : Claim7 := { stood := { row := vlexBackRow, standIns := [], harness := (true, "987e1a7eed62a88d7497f75b0fe5bd4d8c922ddacf7d5f236cc27521b774774f"), looks := true }, kinds := [], alts := [], laidByText := true, laidKinds := [.data, .data, .data, .sentinel, .sentinel], laidTests := true, laidLooks := .later }
def VlexBackCardSaid : Prop := Claim7.holds Tryd.pinned (.plain (OpenSpec.ofChange vlexBackSpec)) vlexBackCard

/-- THE TIED CARD OF 'slipsticklaw24.VlexNames'. -/
def vlexNamesCard : Claim7 := { stood := { row := vlexNamesRow, standIns := [], harness := (true, "987e1a7eed62a88d7497f75b0fe5bd4d8c922ddacf7d5f236cc27521b774774f"), looks := true }, kinds := [], alts := [], laidByText := true, laidKinds := [.data, .data, .data, .sentinel, .sentinel], laidTests := true, laidLooks := .later }
def VlexNamesCardSaid : Prop := Claim7.holds Tryd.pinned (.plain (OpenSpec.ofChange vlexNamesSpec)) vlexNamesCard

/-- THE TIED CARD OF 'slipsticklaw24.VlexJoined'. -/
def vlexJoinedCard : Claim7 := { stood := { row := vlexJoinedRow, standIns := [], harness := (true, "987e1a7eed62a88d7497f75b0fe5bd4d8c922ddacf7d5f236cc27521b774774f"), looks := true }, kinds := [], alts := [], laidByText := true, laidKinds := [.data, .data, .data, .sentinel, .sentinel], laidTests := true, laidLooks := .later }
def VlexJoinedCardSaid : Prop := Claim7.holds Tryd.pinned (.plain (OpenSpec.ofChange vlexJoinedSpec)) vlexJoinedCard

/-- THE SECOND FORM's CARD OF 'slipsticklaw24.VlexTells'. -/
def vlexTellsUptoCard : Claim7 := { stood := { row := vlexTellsUptoRow, standIns := [], harness := (true, "987e1a7eed62a88d7497f75b0fe5bd4d8c922ddacf7d5f236cc27521b774774f"), looks := true }, kinds := [], alts := [], laidByText := true, laidKinds := [.data, .data, .data, .sentinel, .sentinel], laidTests := true, laidLooks := .later }
def VlexTellsUptoCardSaid : Prop := Claim7.holds Tryd.pinned (.plain (OpenSpec.upto vlexTellsSpec)) vlexTellsUptoCard

/-- THE SECOND FORM's CARD OF 'slipsticklaw24.VlexBack'. -/
def vlexBackUptoCard : Claim7 := { stood := { row := vlexBackUptoRow, standIns := [], harness := (true, "987e1a7eed62a88d7497f75b0fe5bd4d8c922ddacf7d5f236cc27521b774774f"), looks := true }, kinds := [], alts := [], laidByText := true, laidKinds := [.data, .data, .data, .sentinel, .sentinel], laidTests := true, laidLooks := .later }
def VlexBackUptoCardSaid : Prop := Claim7.holds Tryd.pinned (.plain (OpenSpec.upto vlexBackSpec)) vlexBackUptoCard

/-- THE SECOND FORM's CARD OF 'slipsticklaw24.VlexNames'. -/
def vlexNamesUptoCard : Claim7 := { stood := { row := vlexNamesUptoRow, standIns := [], harness := (true, "987e1a7eed62a88d7497f75b0fe5bd4d8c922ddacf7d5f236cc27521b774774f"), looks := true }, kinds := [], alts := [], laidByText := true, laidKinds := [.data, .data, .data, .sentinel, .sentinel], laidTests := true, laidLooks := .later }
def VlexNamesUptoCardSaid : Prop := Claim7.holds Tryd.pinned (.plain (OpenSpec.upto vlexNamesSpec)) vlexNamesUptoCard

/-- THE SECOND FORM's CARD OF 'slipsticklaw24.VlexJoined'. -/
def vlexJoinedUptoCard : Claim7 := { stood := { row := vlexJoinedUptoRow, standIns := [], harness := (true, "987e1a7eed62a88d7497f75b0fe5bd4d8c922ddacf7d5f236cc27521b774774f"), looks := true }, kinds := [], alts := [], laidByText := true, laidKinds := [.data, .data, .data, .sentinel, .sentinel], laidTests := true, laidLooks := .later }
def VlexJoinedUptoCardSaid : Prop := Claim7.holds Tryd.pinned (.plain (OpenSpec.upto vlexJoinedSpec)) vlexJoinedUptoCard
end Rows
end Go.Proofs.YtkoacjnffbfgiaaDoor
