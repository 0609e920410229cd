/-
  DERIVED. GIVEN WITH THE SEED: THE CARDS: each row of YtflicmdgijghaaaDoorRows.lean that lists a variable, with what it lists TIED to the program's text (the seventh form; the later family's looks); each row that meets fmt, with fmt's text TOLD by the authors' own Lean function (tested against real Go, not proved from fmt's source: count such statements apart). THE CARD IS WHAT COUNTS. Prove the row's statement (the work); the ties are given (YtflicmdgijghaaaDoorTie.lean); close each card by the builder's one call (the guide's Derived/Test/ToyasCard.lean, 'card_holds'). Laid BY PROGRAM, IN A SANDBOX (cutbox-door.mjs). By AI agents, Wed Nov 11 2026. No macro, syntax, notation, axiom, sorry.
-/
import Derived.Test.YtflicmdgijghaaaDoorRows
import GoSem.ClaimSeven
namespace Go.Proofs.YtflicmdgijghaaaDoor
namespace Rows

/-- THE TIED CARD OF 'slipsticklaw03.FormatTells'. -/
def formatTellsCard : Claim7 := { stood := { row := formatTellsRow, standIns := [], harness := (true, "66d5e8fe30a2a847ef86daa07d41e6da11da96fcce364372372056abc347540b"), looks := false }, kinds := [], alts := [], laidByText := true, laidKinds := [.data, .data], laidTests := true, laidLooks := .later }
def FormatTellsCardSaid : Prop := Claim7.holds Tryd.pinned (.plain (OpenSpec.ofChange formatTellsSpec)) formatTellsCard

/-- THE TIED CARD OF 'slipsticklaw03.FormatPuts'. -/
def formatPutsCard : Claim7 := { stood := { row := formatPutsRow, standIns := [], harness := (true, "66d5e8fe30a2a847ef86daa07d41e6da11da96fcce364372372056abc347540b"), looks := false }, kinds := [], alts := [], laidByText := true, laidKinds := [.data, .data], laidTests := true, laidLooks := .later }
def FormatPutsCardSaid : Prop := Claim7.holds Tryd.pinned (.plain (OpenSpec.ofChange formatPutsSpec)) formatPutsCard

/-- THE TIED CARD OF 'slipsticklaw03.FormatBack'. -/
def formatBackCard : Claim7 := { stood := { row := formatBackRow, standIns := [], harness := (true, "66d5e8fe30a2a847ef86daa07d41e6da11da96fcce364372372056abc347540b"), looks := false }, kinds := [], alts := [], laidByText := true, laidKinds := [.data, .data], laidTests := true, laidLooks := .later }
def FormatBackCardSaid : Prop := Claim7.holds Tryd.pinned (.plain (OpenSpec.ofChange formatBackSpec)) formatBackCard

/-- THE TIED CARD OF 'slipsticklaw03.FormatOrder'. -/
def formatOrderCard : Claim7 := { stood := { row := formatOrderRow, standIns := [], harness := (true, "66d5e8fe30a2a847ef86daa07d41e6da11da96fcce364372372056abc347540b"), looks := false }, kinds := [], alts := [], laidByText := true, laidKinds := [.data, .data], laidTests := true, laidLooks := .later }
def FormatOrderCardSaid : Prop := Claim7.holds Tryd.pinned (.plain (OpenSpec.ofChange formatOrderSpec)) formatOrderCard

/-- THE TIED CARD OF 'slipsticklaw03.FormatNext'. -/
def formatNextCard : Claim7 := { stood := { row := formatNextRow, standIns := [], harness := (true, "66d5e8fe30a2a847ef86daa07d41e6da11da96fcce364372372056abc347540b"), looks := false }, kinds := [], alts := [], laidByText := true, laidKinds := [.data, .data], laidTests := true, laidLooks := .later }
def FormatNextCardSaid : Prop := Claim7.holds Tryd.pinned (.plain (OpenSpec.ofChange formatNextSpec)) formatNextCard

/-- THE SECOND FORM's CARD OF 'slipsticklaw03.FormatTells'. -/
def formatTellsUptoCard : Claim7 := { stood := { row := formatTellsUptoRow, standIns := [], harness := (true, "66d5e8fe30a2a847ef86daa07d41e6da11da96fcce364372372056abc347540b"), looks := false }, kinds := [], alts := [], laidByText := true, laidKinds := [.data, .data], laidTests := true, laidLooks := .later }
def FormatTellsUptoCardSaid : Prop := Claim7.holds Tryd.pinned (.plain (OpenSpec.upto formatTellsSpec)) formatTellsUptoCard

/-- THE SECOND FORM's CARD OF 'slipsticklaw03.FormatPuts'. -/
def formatPutsUptoCard : Claim7 := { stood := { row := formatPutsUptoRow, standIns := [], harness := (true, "66d5e8fe30a2a847ef86daa07d41e6da11da96fcce364372372056abc347540b"), looks := false }, kinds := [], alts := [], laidByText := true, laidKinds := [.data, .data], laidTests := true, laidLooks := .later }
def FormatPutsUptoCardSaid : Prop := Claim7.holds Tryd.pinned (.plain (OpenSpec.upto formatPutsSpec)) formatPutsUptoCard

/-- THE SECOND FORM's CARD OF 'slipsticklaw03.FormatBack'. -/
def formatBackUptoCard : Claim7 := { stood := { row := formatBackUptoRow, standIns := [], harness := (true, "66d5e8fe30a2a847ef86daa07d41e6da11da96fcce364372372056abc347540b"), looks := false }, kinds := [], alts := [], laidByText := true, laidKinds := [.data, .data], laidTests := true, laidLooks := .later }
def FormatBackUptoCardSaid : Prop := Claim7.holds Tryd.pinned (.plain (OpenSpec.upto formatBackSpec)) formatBackUptoCard

/-- THE SECOND FORM's CARD OF 'slipsticklaw03.FormatOrder'. -/
def formatOrderUptoCard : Claim7 := { stood := { row := formatOrderUptoRow, standIns := [], harness := (true, "66d5e8fe30a2a847ef86daa07d41e6da11da96fcce364372372056abc347540b"), looks := false }, kinds := [], alts := [], laidByText := true, laidKinds := [.data, .data], laidTests := true, laidLooks := .later }
def FormatOrderUptoCardSaid : Prop := Claim7.holds Tryd.pinned (.plain (OpenSpec.upto formatOrderSpec)) formatOrderUptoCard

/-- THE SECOND FORM's CARD OF 'slipsticklaw03.FormatNext'. -/
def formatNextUptoCard : Claim7 := { stood := { row := formatNextUptoRow, standIns := [], harness := (true, "66d5e8fe30a2a847ef86daa07d41e6da11da96fcce364372372056abc347540b"), looks := false }, kinds := [], alts := [], laidByText := true, laidKinds := [.data, .data], laidTests := true, laidLooks := .later }
def FormatNextUptoCardSaid : Prop := Claim7.holds Tryd.pinned (.plain (OpenSpec.upto formatNextSpec)) formatNextUptoCard
end Rows
end Go.Proofs.YtflicmdgijghaaaDoor
