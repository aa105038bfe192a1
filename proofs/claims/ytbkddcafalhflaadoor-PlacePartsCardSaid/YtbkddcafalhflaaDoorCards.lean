/-
  DERIVED. GIVEN WITH THE SEED: THE CARDS: each row of YtbkddcafalhflaaDoorRows.lean that lists a variable, with what it lists TIED to the program's text (the seventh form; the later family's looks); each row that meets fmt, with fmt's text TOLD by the authors' own Lean function (tested against real Go, not proved from fmt's source: count such statements apart). THE CARD IS WHAT COUNTS. Prove the row's statement (the work); the ties are given (YtbkddcafalhflaaDoorTie.lean); close each card by the builder's one call (the guide's Derived/Test/ToyasCard.lean, 'card_holds'). Laid BY PROGRAM, IN A SANDBOX (cutbox-door.mjs). By AI agents, Wed Nov 11 2026. No macro, syntax, notation, axiom, sorry.
-/
import Derived.Test.YtbkddcafalhflaaDoorRows
import GoSem.ClaimSeven
namespace Go.Proofs.YtbkddcafalhflaaDoor
namespace Rows

/-- THE TIED CARD OF 'tallymanlaw14.PlaceKnown'. -/
def placeKnownCard : Claim7 := { stood := { row := placeKnownRow, standIns := [], harness := (true, "b434dcb656168b93e8bf151c3d386230884c484f9a8bf11ee3d4e09b0a17b507"), looks := false }, kinds := [], alts := [], laidByText := true, laidKinds := [.data, .data], laidTests := true, laidLooks := .later }
def PlaceKnownCardSaid : Prop := Claim7.holds Tryd.pinned (.plain (OpenSpec.ofChange placeKnownSpec)) placeKnownCard

/-- THE TIED CARD OF 'tallymanlaw14.PlaceSays'. -/
def placeSaysCard : Claim7 := { stood := { row := placeSaysRow, standIns := [], harness := (true, "b434dcb656168b93e8bf151c3d386230884c484f9a8bf11ee3d4e09b0a17b507"), looks := false }, kinds := [], alts := [], laidByText := true, laidKinds := [.data, .data, .data], laidTests := true, laidLooks := .later }
def PlaceSaysCardSaid : Prop := Claim7.holds Tryd.pinned (.plain (OpenSpec.ofChange placeSaysSpec)) placeSaysCard

/-- THE TIED CARD OF 'tallymanlaw14.PlaceParts'. -/
def placePartsCard : Claim7 := { stood := { row := placePartsRow, standIns := [], harness := (true, "b434dcb656168b93e8bf151c3d386230884c484f9a8bf11ee3d4e09b0a17b507"), looks := false }, kinds := [], alts := [], laidByText := true, laidKinds := [.data, .data, .data], laidTests := true, laidLooks := .later }
def PlacePartsCardSaid : Prop := Claim7.holds Tryd.pinned (.plain (OpenSpec.ofChange placePartsSpec)) placePartsCard

/-- THE SECOND FORM's CARD OF 'tallymanlaw14.PlaceKnown'. -/
def placeKnownUptoCard : Claim7 := { stood := { row := placeKnownUptoRow, standIns := [], harness := (true, "b434dcb656168b93e8bf151c3d386230884c484f9a8bf11ee3d4e09b0a17b507"), looks := false }, kinds := [], alts := [], laidByText := true, laidKinds := [.data, .data], laidTests := true, laidLooks := .later }
def PlaceKnownUptoCardSaid : Prop := Claim7.holds Tryd.pinned (.plain (OpenSpec.upto placeKnownSpec)) placeKnownUptoCard

/-- THE SECOND FORM's CARD OF 'tallymanlaw14.PlaceSays'. -/
def placeSaysUptoCard : Claim7 := { stood := { row := placeSaysUptoRow, standIns := [], harness := (true, "b434dcb656168b93e8bf151c3d386230884c484f9a8bf11ee3d4e09b0a17b507"), looks := false }, kinds := [], alts := [], laidByText := true, laidKinds := [.data, .data, .data], laidTests := true, laidLooks := .later }
def PlaceSaysUptoCardSaid : Prop := Claim7.holds Tryd.pinned (.plain (OpenSpec.upto placeSaysSpec)) placeSaysUptoCard

/-- THE SECOND FORM's CARD OF 'tallymanlaw14.PlaceParts'. -/
def placePartsUptoCard : Claim7 := { stood := { row := placePartsUptoRow, standIns := [], harness := (true, "b434dcb656168b93e8bf151c3d386230884c484f9a8bf11ee3d4e09b0a17b507"), looks := false }, kinds := [], alts := [], laidByText := true, laidKinds := [.data, .data, .data], laidTests := true, laidLooks := .later }
def PlacePartsUptoCardSaid : Prop := Claim7.holds Tryd.pinned (.plain (OpenSpec.upto placePartsSpec)) placePartsUptoCard
end Rows
end Go.Proofs.YtbkddcafalhflaaDoor
