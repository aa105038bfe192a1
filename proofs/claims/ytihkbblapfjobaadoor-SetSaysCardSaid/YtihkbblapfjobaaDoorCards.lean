/-
  DERIVED. GIVEN WITH THE SEED: THE CARDS: each row of YtihkbblapfjobaaDoorRows.lean that lists a variable, with what it lists TIED to the program's text (the seventh form; the later family's looks); each row that meets fmt, with fmt's text TOLD by the authors' own Lean function (tested against real Go, not proved from fmt's source: count such statements apart). THE CARD IS WHAT COUNTS. Prove the row's statement (the work); the ties are given (YtihkbblapfjobaaDoorTie.lean); close each card by the builder's one call (the guide's Derived/Test/ToyasCard.lean, 'card_holds'). Laid BY PROGRAM, IN A SANDBOX (cutbox-door.mjs). By AI agents, Wed Nov 11 2026. No macro, syntax, notation, axiom, sorry.
-/
import Derived.Test.YtihkbblapfjobaaDoorRows
import GoSem.ClaimSeven
namespace Go.Proofs.YtihkbblapfjobaaDoor
namespace Rows

/-- THE TIED CARD OF 'tallymanlaw13.CellKnown'. -/
def cellKnownCard : Claim7 := { stood := { row := cellKnownRow, standIns := [], harness := (true, "9f9ef74060e1ca14d1532ce91dac93860075becaeb94d74e840a2a738b236eda"), looks := false }, kinds := [], alts := [], laidByText := true, laidKinds := [.data, .data], laidTests := true, laidLooks := .later }
def CellKnownCardSaid : Prop := Claim7.holds Tryd.pinned (.plain (OpenSpec.ofChange cellKnownSpec)) cellKnownCard

/-- THE TIED CARD OF 'tallymanlaw13.CellSays'. -/
def cellSaysCard : Claim7 := { stood := { row := cellSaysRow, standIns := [], harness := (true, "9f9ef74060e1ca14d1532ce91dac93860075becaeb94d74e840a2a738b236eda"), looks := false }, kinds := [], alts := [], laidByText := true, laidKinds := [.data, .data], laidTests := true, laidLooks := .later }
def CellSaysCardSaid : Prop := Claim7.holds Tryd.pinned (.plain (OpenSpec.ofChange cellSaysSpec)) cellSaysCard

/-- THE TIED CARD OF 'tallymanlaw13.CellOrder'. -/
def cellOrderCard : Claim7 := { stood := { row := cellOrderRow, standIns := [], harness := (true, "9f9ef74060e1ca14d1532ce91dac93860075becaeb94d74e840a2a738b236eda"), looks := false }, kinds := [], alts := [], laidByText := true, laidKinds := [.data, .data], laidTests := true, laidLooks := .later }
def CellOrderCardSaid : Prop := Claim7.holds Tryd.pinned (.plain (OpenSpec.ofChange cellOrderSpec)) cellOrderCard

/-- THE TIED CARD OF 'tallymanlaw13.CellMinus'. -/
def cellMinusCard : Claim7 := { stood := { row := cellMinusRow, standIns := [], harness := (true, "9f9ef74060e1ca14d1532ce91dac93860075becaeb94d74e840a2a738b236eda"), looks := false }, kinds := [], alts := [], laidByText := true, laidKinds := [.data, .data], laidTests := true, laidLooks := .later }
def CellMinusCardSaid : Prop := Claim7.holds Tryd.pinned (.plain (OpenSpec.ofChange cellMinusSpec)) cellMinusCard

/-- THE TIED CARD OF 'tallymanlaw13.CellOne'. -/
def cellOneCard : Claim7 := { stood := { row := cellOneRow, standIns := [], harness := (true, "9f9ef74060e1ca14d1532ce91dac93860075becaeb94d74e840a2a738b236eda"), looks := false }, kinds := [], alts := [], laidByText := true, laidKinds := [.data, .data], laidTests := true, laidLooks := .later }
def CellOneCardSaid : Prop := Claim7.holds Tryd.pinned (.plain (OpenSpec.ofChange cellOneSpec)) cellOneCard

/-- THE TIED CARD OF 'tallymanlaw10.SetSays'. -/
def setSaysCard : Claim7 := { stood := { row := setSaysRow, standIns := [], harness := (true, "9f9ef74060e1ca14d1532ce91dac93860075becaeb94d74e840a2a738b236eda"), looks := false }, kinds := [], alts := [], laidByText := true, laidKinds := [.data, .data], laidTests := true, laidLooks := .later }
def SetSaysCardSaid : Prop := Claim7.holds Tryd.pinned (.plain (OpenSpec.ofChange setSaysSpec)) setSaysCard

/-- THE SECOND FORM's CARD OF 'tallymanlaw13.CellKnown'. -/
def cellKnownUptoCard : Claim7 := { stood := { row := cellKnownUptoRow, standIns := [], harness := (true, "9f9ef74060e1ca14d1532ce91dac93860075becaeb94d74e840a2a738b236eda"), looks := false }, kinds := [], alts := [], laidByText := true, laidKinds := [.data, .data], laidTests := true, laidLooks := .later }
def CellKnownUptoCardSaid : Prop := Claim7.holds Tryd.pinned (.plain (OpenSpec.upto cellKnownSpec)) cellKnownUptoCard

/-- THE SECOND FORM's CARD OF 'tallymanlaw13.CellSays'. -/
def cellSaysUptoCard : Claim7 := { stood := { row := cellSaysUptoRow, standIns := [], harness := (true, "9f9ef74060e1ca14d1532ce91dac93860075becaeb94d74e840a2a738b236eda"), looks := false }, kinds := [], alts := [], laidByText := true, laidKinds := [.data, .data], laidTests := true, laidLooks := .later }
def CellSaysUptoCardSaid : Prop := Claim7.holds Tryd.pinned (.plain (OpenSpec.upto cellSaysSpec)) cellSaysUptoCard

/-- THE SECOND FORM's CARD OF 'tallymanlaw13.CellOrder'. -/
def cellOrderUptoCard : Claim7 := { stood := { row := cellOrderUptoRow, standIns := [], harness := (true, "9f9ef74060e1ca14d1532ce91dac93860075becaeb94d74e840a2a738b236eda"), looks := false }, kinds := [], alts := [], laidByText := true, laidKinds := [.data, .data], laidTests := true, laidLooks := .later }
def CellOrderUptoCardSaid : Prop := Claim7.holds Tryd.pinned (.plain (OpenSpec.upto cellOrderSpec)) cellOrderUptoCard

/-- THE SECOND FORM's CARD OF 'tallymanlaw13.CellMinus'. -/
def cellMinusUptoCard : Claim7 := { stood := { row := cellMinusUptoRow, standIns := [], harness := (true, "9f9ef74060e1ca14d1532ce91dac93860075becaeb94d74e840a2a738b236eda"), looks := false }, kinds := [], alts := [], laidByText := true, laidKinds := [.data, .data], laidTests := true, laidLooks := .later }
def CellMinusUptoCardSaid : Prop := Claim7.holds Tryd.pinned (.plain (OpenSpec.upto cellMinusSpec)) cellMinusUptoCard

/-- THE SECOND FORM's CARD OF 'tallymanlaw13.CellOne'. -/
def cellOneUptoCard : Claim7 := { stood := { row := cellOneUptoRow, standIns := [], harness := (true, "9f9ef74060e1ca14d1532ce91dac93860075becaeb94d74e840a2a738b236eda"), looks := false }, kinds := [], alts := [], laidByText := true, laidKinds := [.data, .data], laidTests := true, laidLooks := .later }
def CellOneUptoCardSaid : Prop := Claim7.holds Tryd.pinned (.plain (OpenSpec.upto cellOneSpec)) cellOneUptoCard

/-- THE SECOND FORM's CARD OF 'tallymanlaw10.SetSays'. -/
def setSaysUptoCard : Claim7 := { stood := { row := setSaysUptoRow, standIns := [], harness := (true, "9f9ef74060e1ca14d1532ce91dac93860075becaeb94d74e840a2a738b236eda"), looks := false }, kinds := [], alts := [], laidByText := true, laidKinds := [.data, .data], laidTests := true, laidLooks := .later }
def SetSaysUptoCardSaid : Prop := Claim7.holds Tryd.pinned (.plain (OpenSpec.upto setSaysSpec)) setSaysUptoCard
end Rows
end Go.Proofs.YtihkbblapfjobaaDoor
