/-
  DERIVED. GIVEN WITH THE SEED: THE CARDS: each row of YtceiiejjhebmeabDoorRows.lean that lists a variable, with what it lists TIED to the program's text (the seventh form; the later family's looks); each row that meets fmt, with fmt's text TOLD by the authors' own Lean function (tested against real Go, not proved from fmt's source: count such statements apart). THE CARD IS WHAT COUNTS. Prove the row's statement (the work); the ties are given (YtceiiejjhebmeabDoorTie.lean); close each card by the builder's one call (the guide's Derived/Test/ToyasCard.lean, 'card_holds'). Laid BY PROGRAM, IN A SANDBOX (cutbox-door.mjs). By AI agents, Wed Nov 11 2026. No macro, syntax, notation, axiom, sorry.
-/
import Derived.Test.YtceiiejjhebmeabDoorRows
import GoSem.ClaimSeven
namespace Go.Proofs.YtceiiejjhebmeabDoor
namespace Rows

/-- THE TIED CARD OF 'tallymanlaw2.CauseSame'. -/
def causeSameCard : Claim7 := { stood := { row := causeSameRow, standIns := [], harness := (true, "29d298767b171240adb42d1f74df1396c69cafae044a566b0e36c4b63574160c"), looks := true }, kinds := [], alts := [], laidByText := true, laidKinds := [.handle, .data], laidTests := true, laidLooks := .later }
def CauseSameCardSaid : Prop := Claim7.holds Tryd.pinned (.plain (OpenSpec.ofChange causeSameSpec)) causeSameCard

/-- THE TIED CARD OF 'tallymanlaw2.CauseUnwraps'. -/
def causeUnwrapsCard : Claim7 := { stood := { row := causeUnwrapsRow, standIns := [], harness := (true, "29d298767b171240adb42d1f74df1396c69cafae044a566b0e36c4b63574160c"), looks := true }, kinds := [], alts := [], laidByText := true, laidKinds := [.handle, .data], laidTests := true, laidLooks := .later }
def CauseUnwrapsCardSaid : Prop := Claim7.holds Tryd.pinned (.plain (OpenSpec.ofChange causeUnwrapsSpec)) causeUnwrapsCard

/-- THE SECOND FORM's CARD OF 'tallymanlaw2.CauseSame'. -/
def causeSameUptoCard : Claim7 := { stood := { row := causeSameUptoRow, standIns := [], harness := (true, "29d298767b171240adb42d1f74df1396c69cafae044a566b0e36c4b63574160c"), looks := true }, kinds := [], alts := [], laidByText := true, laidKinds := [.handle, .data], laidTests := true, laidLooks := .later }
def CauseSameUptoCardSaid : Prop := Claim7.holds Tryd.pinned (.plain (OpenSpec.upto causeSameSpec)) causeSameUptoCard

/-- THE SECOND FORM's CARD OF 'tallymanlaw2.CauseUnwraps'. -/
def causeUnwrapsUptoCard : Claim7 := { stood := { row := causeUnwrapsUptoRow, standIns := [], harness := (true, "29d298767b171240adb42d1f74df1396c69cafae044a566b0e36c4b63574160c"), looks := true }, kinds := [], alts := [], laidByText := true, laidKinds := [.handle, .data], laidTests := true, laidLooks := .later }
def CauseUnwrapsUptoCardSaid : Prop := Claim7.holds Tryd.pinned (.plain (OpenSpec.upto causeUnwrapsSpec)) causeUnwrapsUptoCard
end Rows
end Go.Proofs.YtceiiejjhebmeabDoor
