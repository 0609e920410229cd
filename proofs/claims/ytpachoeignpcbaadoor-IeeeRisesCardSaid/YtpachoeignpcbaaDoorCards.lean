/-
  DERIVED. GIVEN WITH THE SEED: THE CARDS: each row of YtpachoeignpcbaaDoorRows.lean that lists a variable, with what it lists TIED to the program's text (the seventh form; the later family's looks); each row that meets fmt, with fmt's text TOLD by the authors' own Lean function (tested against real Go, not proved from fmt's source: count such statements apart). THE CARD IS WHAT COUNTS. Prove the row's statement (the work); the ties are given (YtpachoeignpcbaaDoorTie.lean); close each card by the builder's one call (the guide's Derived/Test/ToyasCard.lean, 'card_holds'). Laid BY PROGRAM, IN A SANDBOX (cutbox-door.mjs). By AI agents, Wed Nov 11 2026. No macro, syntax, notation, axiom, sorry.
-/
import Derived.Test.YtpachoeignpcbaaDoorRows
import GoSem.ClaimSeven
namespace Go.Proofs.YtpachoeignpcbaaDoor
namespace Rows

/-- THE TIED CARD OF 'slipsticklaw05.IeeeTurned'. -/
def ieeeTurnedCard : Claim7 := { stood := { row := ieeeTurnedRow, standIns := [], harness := (true, "86d1c2202f9be3314805a409dd90a6df3d9b4c252d33c38d8c2fbafe5265bfc3"), looks := false }, kinds := [], alts := [], laidByText := true, laidKinds := [.data, .data], laidTests := true, laidLooks := .later }
def IeeeTurnedCardSaid : Prop := Claim7.holds Tryd.pinned (.plain (OpenSpec.ofChange ieeeTurnedSpec)) ieeeTurnedCard

/-- THE TIED CARD OF 'slipsticklaw05.IeeeOne'. -/
def ieeeOneCard : Claim7 := { stood := { row := ieeeOneRow, standIns := [], harness := (true, "86d1c2202f9be3314805a409dd90a6df3d9b4c252d33c38d8c2fbafe5265bfc3"), looks := false }, kinds := [], alts := [], laidByText := true, laidKinds := [.data, .data], laidTests := true, laidLooks := .later }
def IeeeOneCardSaid : Prop := Claim7.holds Tryd.pinned (.plain (OpenSpec.ofChange ieeeOneSpec)) ieeeOneCard

/-- THE TIED CARD OF 'slipsticklaw05.IeeeExact'. -/
def ieeeExactCard : Claim7 := { stood := { row := ieeeExactRow, standIns := [], harness := (true, "86d1c2202f9be3314805a409dd90a6df3d9b4c252d33c38d8c2fbafe5265bfc3"), looks := false }, kinds := [], alts := [], laidByText := true, laidKinds := [.data, .data], laidTests := true, laidLooks := .later }
def IeeeExactCardSaid : Prop := Claim7.holds Tryd.pinned (.plain (OpenSpec.ofChange ieeeExactSpec)) ieeeExactCard

/-- THE TIED CARD OF 'slipsticklaw05.IeeeAgain'. -/
def ieeeAgainCard : Claim7 := { stood := { row := ieeeAgainRow, standIns := [], harness := (true, "86d1c2202f9be3314805a409dd90a6df3d9b4c252d33c38d8c2fbafe5265bfc3"), looks := false }, kinds := [], alts := [], laidByText := true, laidKinds := [.data, .data], laidTests := true, laidLooks := .later }
def IeeeAgainCardSaid : Prop := Claim7.holds Tryd.pinned (.plain (OpenSpec.ofChange ieeeAgainSpec)) ieeeAgainCard

/-- THE TIED CARD OF 'slipsticklaw05.IeeeRises'. -/
def ieeeRisesCard : Claim7 := { stood := { row := ieeeRisesRow, standIns := [], harness := (true, "86d1c2202f9be3314805a409dd90a6df3d9b4c252d33c38d8c2fbafe5265bfc3"), looks := false }, kinds := [], alts := [], laidByText := true, laidKinds := [.data, .data], laidTests := true, laidLooks := .later }
def IeeeRisesCardSaid : Prop := Claim7.holds Tryd.pinned (.plain (OpenSpec.ofChange ieeeRisesSpec)) ieeeRisesCard

/-- THE TIED CARD OF 'slipsticklaw05.IeeeNear'. -/
def ieeeNearCard : Claim7 := { stood := { row := ieeeNearRow, standIns := [], harness := (true, "86d1c2202f9be3314805a409dd90a6df3d9b4c252d33c38d8c2fbafe5265bfc3"), looks := false }, kinds := [], alts := [], laidByText := true, laidKinds := [.data, .data], laidTests := true, laidLooks := .later }
def IeeeNearCardSaid : Prop := Claim7.holds Tryd.pinned (.plain (OpenSpec.ofChange ieeeNearSpec)) ieeeNearCard

/-- THE TIED CARD OF 'slipsticklaw05.IeeeUnit'. -/
def ieeeUnitCard : Claim7 := { stood := { row := ieeeUnitRow, standIns := [], harness := (true, "86d1c2202f9be3314805a409dd90a6df3d9b4c252d33c38d8c2fbafe5265bfc3"), looks := false }, kinds := [], alts := [], laidByText := true, laidKinds := [.data, .data], laidTests := true, laidLooks := .later }
def IeeeUnitCardSaid : Prop := Claim7.holds Tryd.pinned (.plain (OpenSpec.ofChange ieeeUnitSpec)) ieeeUnitCard

/-- THE TIED CARD OF 'slipsticklaw05.IeeeRest'. -/
def ieeeRestCard : Claim7 := { stood := { row := ieeeRestRow, standIns := [], harness := (true, "86d1c2202f9be3314805a409dd90a6df3d9b4c252d33c38d8c2fbafe5265bfc3"), looks := false }, kinds := [], alts := [], laidByText := true, laidKinds := [.data, .data], laidTests := true, laidLooks := .later }
def IeeeRestCardSaid : Prop := Claim7.holds Tryd.pinned (.plain (OpenSpec.ofChange ieeeRestSpec)) ieeeRestCard

/-- THE SECOND FORM's CARD OF 'slipsticklaw05.IeeeTurned'. -/
def ieeeTurnedUptoCard : Claim7 := { stood := { row := ieeeTurnedUptoRow, standIns := [], harness := (true, "86d1c2202f9be3314805a409dd90a6df3d9b4c252d33c38d8c2fbafe5265bfc3"), looks := false }, kinds := [], alts := [], laidByText := true, laidKinds := [.data, .data], laidTests := true, laidLooks := .later }
def IeeeTurnedUptoCardSaid : Prop := Claim7.holds Tryd.pinned (.plain (OpenSpec.upto ieeeTurnedSpec)) ieeeTurnedUptoCard

/-- THE SECOND FORM's CARD OF 'slipsticklaw05.IeeeOne'. -/
def ieeeOneUptoCard : Claim7 := { stood := { row := ieeeOneUptoRow, standIns := [], harness := (true, "86d1c2202f9be3314805a409dd90a6df3d9b4c252d33c38d8c2fbafe5265bfc3"), looks := false }, kinds := [], alts := [], laidByText := true, laidKinds := [.data, .data], laidTests := true, laidLooks := .later }
def IeeeOneUptoCardSaid : Prop := Claim7.holds Tryd.pinned (.plain (OpenSpec.upto ieeeOneSpec)) ieeeOneUptoCard

/-- THE SECOND FORM's CARD OF 'slipsticklaw05.IeeeExact'. -/
def ieeeExactUptoCard : Claim7 := { stood := { row := ieeeExactUptoRow, standIns := [], harness := (true, "86d1c2202f9be3314805a409dd90a6df3d9b4c252d33c38d8c2fbafe5265bfc3"), looks := false }, kinds := [], alts := [], laidByText := true, laidKinds := [.data, .data], laidTests := true, laidLooks := .later }
def IeeeExactUptoCardSaid : Prop := Claim7.holds Tryd.pinned (.plain (OpenSpec.upto ieeeExactSpec)) ieeeExactUptoCard

/-- THE SECOND FORM's CARD OF 'slipsticklaw05.IeeeAgain'. -/
def ieeeAgainUptoCard : Claim7 := { stood := { row := ieeeAgainUptoRow, standIns := [], harness := (true, "86d1c2202f9be3314805a409dd90a6df3d9b4c252d33c38d8c2fbafe5265bfc3"), looks := false }, kinds := [], alts := [], laidByText := true, laidKinds := [.data, .data], laidTests := true, laidLooks := .later }
def IeeeAgainUptoCardSaid : Prop := Claim7.holds Tryd.pinned (.plain (OpenSpec.upto ieeeAgainSpec)) ieeeAgainUptoCard

/-- THE SECOND FORM's CARD OF 'slipsticklaw05.IeeeRises'. -/
def ieeeRisesUptoCard : Claim7 := { stood := { row := ieeeRisesUptoRow, standIns := [], harness := (true, "86d1c2202f9be3314805a409dd90a6df3d9b4c252d33c38d8c2fbafe5265bfc3"), looks := false }, kinds := [], alts := [], laidByText := true, laidKinds := [.data, .data], laidTests := true, laidLooks := .later }
def IeeeRisesUptoCardSaid : Prop := Claim7.holds Tryd.pinned (.plain (OpenSpec.upto ieeeRisesSpec)) ieeeRisesUptoCard

/-- THE SECOND FORM's CARD OF 'slipsticklaw05.IeeeNear'. -/
def ieeeNearUptoCard : Claim7 := { stood := { row := ieeeNearUptoRow, standIns := [], harness := (true, "86d1c2202f9be3314805a409dd90a6df3d9b4c252d33c38d8c2fbafe5265bfc3"), looks := false }, kinds := [], alts := [], laidByText := true, laidKinds := [.data, .data], laidTests := true, laidLooks := .later }
def IeeeNearUptoCardSaid : Prop := Claim7.holds Tryd.pinned (.plain (OpenSpec.upto ieeeNearSpec)) ieeeNearUptoCard

/-- THE SECOND FORM's CARD OF 'slipsticklaw05.IeeeUnit'. -/
def ieeeUnitUptoCard : Claim7 := { stood := { row := ieeeUnitUptoRow, standIns := [], harness := (true, "86d1c2202f9be3314805a409dd90a6df3d9b4c252d33c38d8c2fbafe5265bfc3"), looks := false }, kinds := [], alts := [], laidByText := true, laidKinds := [.data, .data], laidTests := true, laidLooks := .later }
def IeeeUnitUptoCardSaid : Prop := Claim7.holds Tryd.pinned (.plain (OpenSpec.upto ieeeUnitSpec)) ieeeUnitUptoCard

/-- THE SECOND FORM's CARD OF 'slipsticklaw05.IeeeRest'. -/
def ieeeRestUptoCard : Claim7 := { stood := { row := ieeeRestUptoRow, standIns := [], harness := (true, "86d1c2202f9be3314805a409dd90a6df3d9b4c252d33c38d8c2fbafe5265bfc3"), looks := false }, kinds := [], alts := [], laidByText := true, laidKinds := [.data, .data], laidTests := true, laidLooks := .later }
def IeeeRestUptoCardSaid : Prop := Claim7.holds Tryd.pinned (.plain (OpenSpec.upto ieeeRestSpec)) ieeeRestUptoCard
end Rows
end Go.Proofs.YtpachoeignpcbaaDoor
