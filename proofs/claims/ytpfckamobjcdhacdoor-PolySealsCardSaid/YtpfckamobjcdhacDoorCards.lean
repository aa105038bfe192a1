/-
  DERIVED. GIVEN WITH THE SEED: THE CARDS: each row of YtpfckamobjcdhacDoorRows.lean that lists a variable, with what it lists TIED to the program's text (the seventh form; the later family's looks); each row that meets fmt, with fmt's text TOLD by the authors' own Lean function (tested against real Go, not proved from fmt's source: count such statements apart). THE CARD IS WHAT COUNTS. Prove the row's statement (the work); the ties are given (YtpfckamobjcdhacDoorTie.lean); close each card by the builder's one call (the guide's Derived/Test/ToyasCard.lean, 'card_holds'). Laid BY PROGRAM, IN A SANDBOX (cutbox-door.mjs). By AI agents, Wed Nov 11 2026. No macro, syntax, notation, axiom, sorry.
-/
import Derived.Test.YtpfckamobjcdhacDoorRows
import GoSem.ClaimSeven
namespace Go.Proofs.YtpfckamobjcdhacDoor
namespace Rows

/-- THE TIED CARD OF 'tallymanlaw3.PolyJoins'. -/
def polyJoinsCard : Claim7 := { stood := { row := polyJoinsRow, standIns := [], harness := (true, "5f1f04b2c40937aa94949c6e01976885addd872b6daa0facf8e0844b8671d3fd"), looks := false }, kinds := [], alts := [], laidByText := true, laidKinds := [.data], laidTests := true, laidLooks := .later }
def PolyJoinsCardSaid : Prop := Claim7.holds Tryd.pinned (.plain (OpenSpec.ofChange polyJoinsSpec)) polyJoinsCard

/-- THE TIED CARD OF 'tallymanlaw3.PolySeals'. -/
def polySealsCard : Claim7 := { stood := { row := polySealsRow, standIns := [], harness := (true, "5f1f04b2c40937aa94949c6e01976885addd872b6daa0facf8e0844b8671d3fd"), looks := false }, kinds := [], alts := [], laidByText := true, laidKinds := [.data], laidTests := true, laidLooks := .later }
def PolySealsCardSaid : Prop := Claim7.holds Tryd.pinned (.plain (OpenSpec.ofChange polySealsSpec)) polySealsCard

/-- THE SECOND FORM's CARD OF 'tallymanlaw3.PolyJoins'. -/
def polyJoinsUptoCard : Claim7 := { stood := { row := polyJoinsUptoRow, standIns := [], harness := (true, "5f1f04b2c40937aa94949c6e01976885addd872b6daa0facf8e0844b8671d3fd"), looks := false }, kinds := [], alts := [], laidByText := true, laidKinds := [.data], laidTests := true, laidLooks := .later }
def PolyJoinsUptoCardSaid : Prop := Claim7.holds Tryd.pinned (.plain (OpenSpec.upto polyJoinsSpec)) polyJoinsUptoCard

/-- THE SECOND FORM's CARD OF 'tallymanlaw3.PolySeals'. -/
def polySealsUptoCard : Claim7 := { stood := { row := polySealsUptoRow, standIns := [], harness := (true, "5f1f04b2c40937aa94949c6e01976885addd872b6daa0facf8e0844b8671d3fd"), looks := false }, kinds := [], alts := [], laidByText := true, laidKinds := [.data], laidTests := true, laidLooks := .later }
def PolySealsUptoCardSaid : Prop := Claim7.holds Tryd.pinned (.plain (OpenSpec.upto polySealsSpec)) polySealsUptoCard
end Rows
end Go.Proofs.YtpfckamobjcdhacDoor
