/-
  DERIVED. GIVEN WITH THE SEED: THE CARDS: each row of YtnkcehmgagpadabDoorRows.lean that lists a variable, with what it lists TIED to the program's text (the seventh form; the later family's looks); each row that meets fmt, with fmt's text TOLD by the authors' own Lean function (tested against real Go, not proved from fmt's source: count such statements apart). THE CARD IS WHAT COUNTS. Prove the row's statement (the work); the ties are given (YtnkcehmgagpadabDoorTie.lean); close each card by the builder's one call (the guide's Derived/Test/ToyasCard.lean, 'card_holds'). Laid BY PROGRAM, IN A SANDBOX (cutbox-door.mjs). By AI agents, Wed Nov 11 2026. No macro, syntax, notation, axiom, sorry.
-/
import Derived.Test.YtnkcehmgagpadabDoorRows
import GoSem.ClaimSeven
namespace Go.Proofs.YtnkcehmgagpadabDoor
namespace Rows

/-- THE TIED CARD OF 'tallymanlaw16.PeelOne'. -/
def peelOneCard : Claim7 := { stood := { row := peelOneRow, standIns := [], harness := (true, "0e7c301d411355365e97c4ea8c7c13025622a3c1cd216f1933a0ca0ded61419e"), looks := false }, kinds := [], alts := [], laidByText := true, laidKinds := [.data, .data], laidTests := true, laidLooks := .later }
def PeelOneCardSaid : Prop := Claim7.holds Tryd.pinned (.plain (OpenSpec.ofChange peelOneSpec)) peelOneCard

/-- THE SECOND FORM's CARD OF 'tallymanlaw16.PeelOne'. -/
def peelOneUptoCard : Claim7 := { stood := { row := peelOneUptoRow, standIns := [], harness := (true, "0e7c301d411355365e97c4ea8c7c13025622a3c1cd216f1933a0ca0ded61419e"), looks := false }, kinds := [], alts := [], laidByText := true, laidKinds := [.data, .data], laidTests := true, laidLooks := .later }
def PeelOneUptoCardSaid : Prop := Claim7.holds Tryd.pinned (.plain (OpenSpec.upto peelOneSpec)) peelOneUptoCard
end Rows
end Go.Proofs.YtnkcehmgagpadabDoor
