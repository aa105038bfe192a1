/-
  DERIVED. GIVEN WITH THE SEED: THE CARDS: each row of YtpfckamobjcdhabDoorRows.lean that lists a variable, with what it lists TIED to the program's text (the seventh form; the later family's looks); each row that meets fmt, with fmt's text TOLD by the authors' own Lean function (tested against real Go, not proved from fmt's source: count such statements apart). THE CARD IS WHAT COUNTS. Prove the row's statement (the work); the ties are given (YtpfckamobjcdhabDoorTie.lean); close each card by the builder's one call (the guide's Derived/Test/ToyasCard.lean, 'card_holds'). Laid BY PROGRAM, IN A SANDBOX (cutbox-door.mjs). By AI agents, Wed Nov 11 2026. No macro, syntax, notation, axiom, sorry.
-/
import Derived.Test.YtpfckamobjcdhabDoorRows
import GoSem.ClaimSeven
namespace Go.Proofs.YtpfckamobjcdhabDoor
namespace Rows

/-- THE TIED CARD OF 'tallymanlaw2.CauseSame'. -/
def causeSameCard : Claim7 := { stood := { row := causeSameRow, standIns := [], harness := (true, "ec4c6dcdc9aff1735b76da3151a3aefe1dcec2be00a74acfb077b26b60e7f02d"), looks := true }, kinds := [], alts := [], laidByText := true, laidKinds := [.handle, .data], laidTests := true, laidLooks := .later }
def CauseSameCardSaid : Prop := Claim7.holds Tryd.pinned (.plain (OpenSpec.ofChange causeSameSpec)) causeSameCard

/-- THE TIED CARD OF 'tallymanlaw2.CauseUnwraps'. -/
def causeUnwrapsCard : Claim7 := { stood := { row := causeUnwrapsRow, standIns := [], harness := (true, "ec4c6dcdc9aff1735b76da3151a3aefe1dcec2be00a74acfb077b26b60e7f02d"), looks := true }, kinds := [], alts := [], laidByText := true, laidKinds := [.handle, .data], laidTests := true, laidLooks := .later }
def CauseUnwrapsCardSaid : Prop := Claim7.holds Tryd.pinned (.plain (OpenSpec.ofChange causeUnwrapsSpec)) causeUnwrapsCard

/-- THE TIED CARD OF 'tallymanlaw3.PolyKnown'. -/
def polyKnownCard : Claim7 := { stood := { row := polyKnownRow, standIns := [], harness := (true, "ec4c6dcdc9aff1735b76da3151a3aefe1dcec2be00a74acfb077b26b60e7f02d"), looks := true }, kinds := [], alts := [], laidByText := true, laidKinds := [.data], laidTests := true, laidLooks := .later }
def PolyKnownCardSaid : Prop := Claim7.holds Tryd.pinned (.plain (OpenSpec.ofChange polyKnownSpec)) polyKnownCard

/-- THE TIED CARD OF 'tallymanlaw3.PolySays'. -/
def polySaysCard : Claim7 := { stood := { row := polySaysRow, standIns := [], harness := (true, "ec4c6dcdc9aff1735b76da3151a3aefe1dcec2be00a74acfb077b26b60e7f02d"), looks := true }, kinds := [], alts := [], laidByText := true, laidKinds := [.data], laidTests := true, laidLooks := .later }
def PolySaysCardSaid : Prop := Claim7.holds Tryd.pinned (.plain (OpenSpec.ofChange polySaysSpec)) polySaysCard

/-- THE SECOND FORM's CARD OF 'tallymanlaw2.CauseSame'. -/
def causeSameUptoCard : Claim7 := { stood := { row := causeSameUptoRow, standIns := [], harness := (true, "ec4c6dcdc9aff1735b76da3151a3aefe1dcec2be00a74acfb077b26b60e7f02d"), looks := true }, kinds := [], alts := [], laidByText := true, laidKinds := [.handle, .data], laidTests := true, laidLooks := .later }
def CauseSameUptoCardSaid : Prop := Claim7.holds Tryd.pinned (.plain (OpenSpec.upto causeSameSpec)) causeSameUptoCard

/-- THE SECOND FORM's CARD OF 'tallymanlaw2.CauseUnwraps'. -/
def causeUnwrapsUptoCard : Claim7 := { stood := { row := causeUnwrapsUptoRow, standIns := [], harness := (true, "ec4c6dcdc9aff1735b76da3151a3aefe1dcec2be00a74acfb077b26b60e7f02d"), looks := true }, kinds := [], alts := [], laidByText := true, laidKinds := [.handle, .data], laidTests := true, laidLooks := .later }
def CauseUnwrapsUptoCardSaid : Prop := Claim7.holds Tryd.pinned (.plain (OpenSpec.upto causeUnwrapsSpec)) causeUnwrapsUptoCard

/-- THE SECOND FORM's CARD OF 'tallymanlaw3.PolyKnown'. -/
def polyKnownUptoCard : Claim7 := { stood := { row := polyKnownUptoRow, standIns := [], harness := (true, "ec4c6dcdc9aff1735b76da3151a3aefe1dcec2be00a74acfb077b26b60e7f02d"), looks := true }, kinds := [], alts := [], laidByText := true, laidKinds := [.data], laidTests := true, laidLooks := .later }
def PolyKnownUptoCardSaid : Prop := Claim7.holds Tryd.pinned (.plain (OpenSpec.upto polyKnownSpec)) polyKnownUptoCard

/-- THE SECOND FORM's CARD OF 'tallymanlaw3.PolySays'. -/
def polySaysUptoCard : Claim7 := { stood := { row := polySaysUptoRow, standIns := [], harness := (true, "ec4c6dcdc9aff1735b76da3151a3aefe1dcec2be00a74acfb077b26b60e7f02d"), looks := true }, kinds := [], alts := [], laidByText := true, laidKinds := [.data], laidTests := true, laidLooks := .later }
def PolySaysUptoCardSaid : Prop := Claim7.holds Tryd.pinned (.plain (OpenSpec.upto polySaysSpec)) polySaysUptoCard
end Rows
end Go.Proofs.YtpfckamobjcdhabDoor
