/-
  DERIVED. GIVEN WITH THE SEED: THE CARDS: each row of YtnkcehmgagpadaaDoorRows.lean that lists a variable, with what it lists TIED to the program's text (the seventh form; the later family's looks); each row that meets fmt, with fmt's text TOLD by the authors' own Lean function (tested against real Go, not proved from fmt's source: count such statements apart). THE CARD IS WHAT COUNTS. Prove the row's statement (the work); the ties are given (YtnkcehmgagpadaaDoorTie.lean); close each card by the builder's one call (the guide's Derived/Test/ToyasCard.lean, 'card_holds'). Laid BY PROGRAM, IN A SANDBOX (cutbox-door.mjs). By AI agents, Wed Nov 11 2026. No macro, syntax, notation, axiom, sorry.
-/
import Derived.Test.YtnkcehmgagpadaaDoorRows
import GoSem.ClaimSeven
namespace Go.Proofs.YtnkcehmgagpadaaDoor
namespace Rows

/-- THE TIED CARD OF 'tallymanlaw16.PeelKnown'. -/
def peelKnownCard : Claim7 := { stood := { row := peelKnownRow, standIns := [], harness := (true, "3cea4fa3712182328cf13e1fed7248c1ce8461f8e178378cee57b9d0c32ff4c8"), looks := false }, kinds := [], alts := [], laidByText := true, laidKinds := [.data, .data], laidTests := true, laidLooks := .later }
def PeelKnownCardSaid : Prop := Claim7.holds Tryd.pinned (.plain (OpenSpec.ofChange peelKnownSpec)) peelKnownCard

/-- THE TIED CARD OF 'tallymanlaw16.PeelMakes'. -/
def peelMakesCard : Claim7 := { stood := { row := peelMakesRow, standIns := [], harness := (true, "3cea4fa3712182328cf13e1fed7248c1ce8461f8e178378cee57b9d0c32ff4c8"), looks := false }, kinds := [], alts := [], laidByText := true, laidKinds := [.data, .data], laidTests := true, laidLooks := .later }
def PeelMakesCardSaid : Prop := Claim7.holds Tryd.pinned (.plain (OpenSpec.ofChange peelMakesSpec)) peelMakesCard

/-- THE TIED CARD OF 'tallymanlaw16.PeelRoom'. -/
def peelRoomCard : Claim7 := { stood := { row := peelRoomRow, standIns := [], harness := (true, "3cea4fa3712182328cf13e1fed7248c1ce8461f8e178378cee57b9d0c32ff4c8"), looks := false }, kinds := [], alts := [], laidByText := true, laidKinds := [.data, .data], laidTests := true, laidLooks := .later }
def PeelRoomCardSaid : Prop := Claim7.holds Tryd.pinned (.plain (OpenSpec.ofChange peelRoomSpec)) peelRoomCard

/-- THE TIED CARD OF 'tallymanlaw16.PeelAll'. -/
def peelAllCard : Claim7 := { stood := { row := peelAllRow, standIns := [], harness := (true, "3cea4fa3712182328cf13e1fed7248c1ce8461f8e178378cee57b9d0c32ff4c8"), looks := false }, kinds := [], alts := [], laidByText := true, laidKinds := [.data, .data], laidTests := true, laidLooks := .later }
def PeelAllCardSaid : Prop := Claim7.holds Tryd.pinned (.plain (OpenSpec.ofChange peelAllSpec)) peelAllCard

/-- THE TIED CARD OF 'tallymanlaw16.PeelSelf'. -/
def peelSelfCard : Claim7 := { stood := { row := peelSelfRow, standIns := [], harness := (true, "3cea4fa3712182328cf13e1fed7248c1ce8461f8e178378cee57b9d0c32ff4c8"), looks := false }, kinds := [], alts := [], laidByText := true, laidKinds := [.data, .data], laidTests := true, laidLooks := .later }
def PeelSelfCardSaid : Prop := Claim7.holds Tryd.pinned (.plain (OpenSpec.ofChange peelSelfSpec)) peelSelfCard

/-- THE SECOND FORM's CARD OF 'tallymanlaw16.PeelKnown'. -/
def peelKnownUptoCard : Claim7 := { stood := { row := peelKnownUptoRow, standIns := [], harness := (true, "3cea4fa3712182328cf13e1fed7248c1ce8461f8e178378cee57b9d0c32ff4c8"), looks := false }, kinds := [], alts := [], laidByText := true, laidKinds := [.data, .data], laidTests := true, laidLooks := .later }
def PeelKnownUptoCardSaid : Prop := Claim7.holds Tryd.pinned (.plain (OpenSpec.upto peelKnownSpec)) peelKnownUptoCard

/-- THE SECOND FORM's CARD OF 'tallymanlaw16.PeelMakes'. -/
def peelMakesUptoCard : Claim7 := { stood := { row := peelMakesUptoRow, standIns := [], harness := (true, "3cea4fa3712182328cf13e1fed7248c1ce8461f8e178378cee57b9d0c32ff4c8"), looks := false }, kinds := [], alts := [], laidByText := true, laidKinds := [.data, .data], laidTests := true, laidLooks := .later }
def PeelMakesUptoCardSaid : Prop := Claim7.holds Tryd.pinned (.plain (OpenSpec.upto peelMakesSpec)) peelMakesUptoCard

/-- THE SECOND FORM's CARD OF 'tallymanlaw16.PeelRoom'. -/
def peelRoomUptoCard : Claim7 := { stood := { row := peelRoomUptoRow, standIns := [], harness := (true, "3cea4fa3712182328cf13e1fed7248c1ce8461f8e178378cee57b9d0c32ff4c8"), looks := false }, kinds := [], alts := [], laidByText := true, laidKinds := [.data, .data], laidTests := true, laidLooks := .later }
def PeelRoomUptoCardSaid : Prop := Claim7.holds Tryd.pinned (.plain (OpenSpec.upto peelRoomSpec)) peelRoomUptoCard

/-- THE SECOND FORM's CARD OF 'tallymanlaw16.PeelAll'. -/
def peelAllUptoCard : Claim7 := { stood := { row := peelAllUptoRow, standIns := [], harness := (true, "3cea4fa3712182328cf13e1fed7248c1ce8461f8e178378cee57b9d0c32ff4c8"), looks := false }, kinds := [], alts := [], laidByText := true, laidKinds := [.data, .data], laidTests := true, laidLooks := .later }
def PeelAllUptoCardSaid : Prop := Claim7.holds Tryd.pinned (.plain (OpenSpec.upto peelAllSpec)) peelAllUptoCard

/-- THE SECOND FORM's CARD OF 'tallymanlaw16.PeelSelf'. -/
def peelSelfUptoCard : Claim7 := { stood := { row := peelSelfUptoRow, standIns := [], harness := (true, "3cea4fa3712182328cf13e1fed7248c1ce8461f8e178378cee57b9d0c32ff4c8"), looks := false }, kinds := [], alts := [], laidByText := true, laidKinds := [.data, .data], laidTests := true, laidLooks := .later }
def PeelSelfUptoCardSaid : Prop := Claim7.holds Tryd.pinned (.plain (OpenSpec.upto peelSelfSpec)) peelSelfUptoCard
end Rows
end Go.Proofs.YtnkcehmgagpadaaDoor
