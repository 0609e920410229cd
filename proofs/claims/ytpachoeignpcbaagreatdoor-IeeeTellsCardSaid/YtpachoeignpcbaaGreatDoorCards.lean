/-
  DERIVED. GIVEN WITH THE SEED: THE CARDS: each row of YtpachoeignpcbaaGreatDoorRows.lean that lists a variable, with what it lists TIED to the program's text (the seventh form; the later family's looks); each row that meets fmt, with fmt's text TOLD by the authors' own Lean function (tested against real Go, not proved from fmt's source: count such statements apart). THE CARD IS WHAT COUNTS. Prove the row's statement (the work); the ties are given (YtpachoeignpcbaaGreatDoorTie.lean); close each card by the builder's one call (the guide's Derived/Test/ToyasCard.lean, 'card_holds'). Laid BY PROGRAM, IN A SANDBOX (cutbox-door.mjs). By AI agents, Wed Nov 11 2026. No macro, syntax, notation, axiom, sorry.
-/
import Derived.Test.YtpachoeignpcbaaGreatDoorRows
import GoSem.ClaimSeven
namespace Go.Proofs.YtpachoeignpcbaaGreatDoor
namespace Rows

/-- THE TIED CARD OF 'slipsticklaw05.IeeeTells'. -/
def ieeeTellsCard : Claim7 := { stood := { row := ieeeTellsRow, standIns := [], harness := (true, "bc6f837dd4b102a338c0f382d06b128b82fddebbdd8b3e3f4d8aea2374b293b7"), looks := false }, kinds := [], alts := [], laidByText := true, laidKinds := [.data, .data], laidTests := true, laidLooks := .later }
def IeeeTellsCardSaid : Prop := Claim7.holds Tryz.pinned (.plain (OpenSpec.ofChange ieeeTellsSpec)) ieeeTellsCard

/-- THE SECOND FORM's CARD OF 'slipsticklaw05.IeeeTells'. -/
def ieeeTellsUptoCard : Claim7 := { stood := { row := ieeeTellsUptoRow, standIns := [], harness := (true, "bc6f837dd4b102a338c0f382d06b128b82fddebbdd8b3e3f4d8aea2374b293b7"), looks := false }, kinds := [], alts := [], laidByText := true, laidKinds := [.data, .data], laidTests := true, laidLooks := .later }
def IeeeTellsUptoCardSaid : Prop := Claim7.holds Tryz.pinned (.plain (OpenSpec.upto ieeeTellsSpec)) ieeeTellsUptoCard
end Rows
end Go.Proofs.YtpachoeignpcbaaGreatDoor
