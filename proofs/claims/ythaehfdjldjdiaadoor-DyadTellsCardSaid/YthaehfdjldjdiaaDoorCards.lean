/-
  DERIVED. GIVEN WITH THE SEED: THE CARDS: each row of YthaehfdjldjdiaaDoorRows.lean that lists a variable, with what it lists TIED to the program's text (the seventh form; the later family's looks); each row that meets fmt, with fmt's text TOLD by the authors' own Lean function (tested against real Go, not proved from fmt's source: count such statements apart). THE CARD IS WHAT COUNTS. Prove the row's statement (the work); the ties are given (YthaehfdjldjdiaaDoorTie.lean); close each card by the builder's one call (the guide's Derived/Test/ToyasCard.lean, 'card_holds'). Laid BY PROGRAM, IN A SANDBOX (cutbox-door.mjs). By AI agents, Wed Nov 11 2026. No macro, syntax, notation, axiom, sorry.
-/
import Derived.Test.YthaehfdjldjdiaaDoorRows
import GoSem.ClaimSeven
namespace Go.Proofs.YthaehfdjldjdiaaDoor
namespace Rows

/-- THE TIED CARD OF 'slipsticklaw02.DyadSums'. -/
def dyadSumsCard : Claim7 := { stood := { row := dyadSumsRow, standIns := [], harness := (true, "cf2501c79124523a73dd3585a8c017e9b7f678f4f92e2dfe6bfe238260ad6c44"), looks := false }, kinds := [], alts := [], laidByText := true, laidKinds := [.data], laidTests := true, laidLooks := .later }
def DyadSumsCardSaid : Prop := Claim7.holds Tryd.pinned (.plain (OpenSpec.ofChange dyadSumsSpec)) dyadSumsCard

/-- THE TIED CARD OF 'slipsticklaw02.DyadTells'. -/
def dyadTellsCard : Claim7 := { stood := { row := dyadTellsRow, standIns := [], harness := (true, "cf2501c79124523a73dd3585a8c017e9b7f678f4f92e2dfe6bfe238260ad6c44"), looks := false }, kinds := [], alts := [], laidByText := true, laidKinds := [.data], laidTests := true, laidLooks := .later }
def DyadTellsCardSaid : Prop := Claim7.holds Tryd.pinned (.plain (OpenSpec.ofChange dyadTellsSpec)) dyadTellsCard

/-- THE TIED CARD OF 'slipsticklaw02.DyadTurns'. -/
def dyadTurnsCard : Claim7 := { stood := { row := dyadTurnsRow, standIns := [], harness := (true, "cf2501c79124523a73dd3585a8c017e9b7f678f4f92e2dfe6bfe238260ad6c44"), looks := false }, kinds := [], alts := [], laidByText := true, laidKinds := [.data], laidTests := true, laidLooks := .later }
def DyadTurnsCardSaid : Prop := Claim7.holds Tryd.pinned (.plain (OpenSpec.ofChange dyadTurnsSpec)) dyadTurnsCard

/-- THE TIED CARD OF 'slipsticklaw02.DyadOrder'. -/
def dyadOrderCard : Claim7 := { stood := { row := dyadOrderRow, standIns := [], harness := (true, "cf2501c79124523a73dd3585a8c017e9b7f678f4f92e2dfe6bfe238260ad6c44"), looks := false }, kinds := [], alts := [], laidByText := true, laidKinds := [.data], laidTests := true, laidLooks := .later }
def DyadOrderCardSaid : Prop := Claim7.holds Tryd.pinned (.plain (OpenSpec.ofChange dyadOrderSpec)) dyadOrderCard

/-- THE TIED CARD OF 'slipsticklaw02.DyadFloors'. -/
def dyadFloorsCard : Claim7 := { stood := { row := dyadFloorsRow, standIns := [], harness := (true, "cf2501c79124523a73dd3585a8c017e9b7f678f4f92e2dfe6bfe238260ad6c44"), looks := false }, kinds := [], alts := [], laidByText := true, laidKinds := [.data], laidTests := true, laidLooks := .later }
def DyadFloorsCardSaid : Prop := Claim7.holds Tryd.pinned (.plain (OpenSpec.ofChange dyadFloorsSpec)) dyadFloorsCard

/-- THE SECOND FORM's CARD OF 'slipsticklaw02.DyadSums'. -/
def dyadSumsUptoCard : Claim7 := { stood := { row := dyadSumsUptoRow, standIns := [], harness := (true, "cf2501c79124523a73dd3585a8c017e9b7f678f4f92e2dfe6bfe238260ad6c44"), looks := false }, kinds := [], alts := [], laidByText := true, laidKinds := [.data], laidTests := true, laidLooks := .later }
def DyadSumsUptoCardSaid : Prop := Claim7.holds Tryd.pinned (.plain (OpenSpec.upto dyadSumsSpec)) dyadSumsUptoCard

/-- THE SECOND FORM's CARD OF 'slipsticklaw02.DyadTells'. -/
def dyadTellsUptoCard : Claim7 := { stood := { row := dyadTellsUptoRow, standIns := [], harness := (true, "cf2501c79124523a73dd3585a8c017e9b7f678f4f92e2dfe6bfe238260ad6c44"), looks := false }, kinds := [], alts := [], laidByText := true, laidKinds := [.data], laidTests := true, laidLooks := .later }
def DyadTellsUptoCardSaid : Prop := Claim7.holds Tryd.pinned (.plain (OpenSpec.upto dyadTellsSpec)) dyadTellsUptoCard

/-- THE SECOND FORM's CARD OF 'slipsticklaw02.DyadTurns'. -/
def dyadTurnsUptoCard : Claim7 := { stood := { row := dyadTurnsUptoRow, standIns := [], harness := (true, "cf2501c79124523a73dd3585a8c017e9b7f678f4f92e2dfe6bfe238260ad6c44"), looks := false }, kinds := [], alts := [], laidByText := true, laidKinds := [.data], laidTests := true, laidLooks := .later }
def DyadTurnsUptoCardSaid : Prop := Claim7.holds Tryd.pinned (.plain (OpenSpec.upto dyadTurnsSpec)) dyadTurnsUptoCard

/-- THE SECOND FORM's CARD OF 'slipsticklaw02.DyadOrder'. -/
def dyadOrderUptoCard : Claim7 := { stood := { row := dyadOrderUptoRow, standIns := [], harness := (true, "cf2501c79124523a73dd3585a8c017e9b7f678f4f92e2dfe6bfe238260ad6c44"), looks := false }, kinds := [], alts := [], laidByText := true, laidKinds := [.data], laidTests := true, laidLooks := .later }
def DyadOrderUptoCardSaid : Prop := Claim7.holds Tryd.pinned (.plain (OpenSpec.upto dyadOrderSpec)) dyadOrderUptoCard

/-- THE SECOND FORM's CARD OF 'slipsticklaw02.DyadFloors'. -/
def dyadFloorsUptoCard : Claim7 := { stood := { row := dyadFloorsUptoRow, standIns := [], harness := (true, "cf2501c79124523a73dd3585a8c017e9b7f678f4f92e2dfe6bfe238260ad6c44"), looks := false }, kinds := [], alts := [], laidByText := true, laidKinds := [.data], laidTests := true, laidLooks := .later }
def DyadFloorsUptoCardSaid : Prop := Claim7.holds Tryd.pinned (.plain (OpenSpec.upto dyadFloorsSpec)) dyadFloorsUptoCard
end Rows
end Go.Proofs.YthaehfdjldjdiaaDoor
