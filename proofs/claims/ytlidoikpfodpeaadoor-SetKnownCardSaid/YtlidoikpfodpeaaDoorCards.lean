/-
  DERIVED. GIVEN WITH THE SEED: THE CARDS: each row of YtlidoikpfodpeaaDoorRows.lean that lists a variable, with what it lists TIED to the program's text (the seventh form; the later family's looks); each row that meets fmt, with fmt's text TOLD by the authors' own Lean function (tested against real Go, not proved from fmt's source: count such statements apart). THE CARD IS WHAT COUNTS. Prove the row's statement (the work); the ties are given (YtlidoikpfodpeaaDoorTie.lean); close each card by the builder's one call (the guide's Derived/Test/ToyasCard.lean, 'card_holds'). Laid BY PROGRAM, IN A SANDBOX (cutbox-door.mjs). By AI agents, Wed Nov 11 2026. No macro, syntax, notation, axiom, sorry.
-/
import Derived.Test.YtlidoikpfodpeaaDoorRows
import GoSem.ClaimSeven
namespace Go.Proofs.YtlidoikpfodpeaaDoor
namespace Rows

/-- THE TIED CARD OF 'tallymanlaw10.SetKnown'. -/
def setKnownCard : Claim7 := { stood := { row := setKnownRow, standIns := [], harness := (true, "d9799d7bff3e3c7d989e0650ce40769d43777f370fa3378393bffd3edf6b2fa8"), looks := false }, kinds := [], alts := [], laidByText := true, laidKinds := [.data, .data], laidTests := true, laidLooks := .later }
def SetKnownCardSaid : Prop := Claim7.holds Tryd.pinned (.plain (OpenSpec.ofChange setKnownSpec)) setKnownCard

/-- THE TIED CARD OF 'tallymanlaw10.SetSays'. -/
def setSaysCard : Claim7 := { stood := { row := setSaysRow, standIns := [], harness := (true, "d9799d7bff3e3c7d989e0650ce40769d43777f370fa3378393bffd3edf6b2fa8"), looks := false }, kinds := [], alts := [], laidByText := true, laidKinds := [.data, .data], laidTests := true, laidLooks := .later }
def SetSaysCardSaid : Prop := Claim7.holds Tryd.pinned (.plain (OpenSpec.ofChange setSaysSpec)) setSaysCard

/-- THE TIED CARD OF 'tallymanlaw10.SetAdds'. -/
def setAddsCard : Claim7 := { stood := { row := setAddsRow, standIns := [], harness := (true, "d9799d7bff3e3c7d989e0650ce40769d43777f370fa3378393bffd3edf6b2fa8"), looks := false }, kinds := [], alts := [], laidByText := true, laidKinds := [.data, .data], laidTests := true, laidLooks := .later }
def SetAddsCardSaid : Prop := Claim7.holds Tryd.pinned (.plain (OpenSpec.ofChange setAddsSpec)) setAddsCard

/-- THE SECOND FORM's CARD OF 'tallymanlaw10.SetKnown'. -/
def setKnownUptoCard : Claim7 := { stood := { row := setKnownUptoRow, standIns := [], harness := (true, "d9799d7bff3e3c7d989e0650ce40769d43777f370fa3378393bffd3edf6b2fa8"), looks := false }, kinds := [], alts := [], laidByText := true, laidKinds := [.data, .data], laidTests := true, laidLooks := .later }
def SetKnownUptoCardSaid : Prop := Claim7.holds Tryd.pinned (.plain (OpenSpec.upto setKnownSpec)) setKnownUptoCard

/-- THE SECOND FORM's CARD OF 'tallymanlaw10.SetSays'. -/
def setSaysUptoCard : Claim7 := { stood := { row := setSaysUptoRow, standIns := [], harness := (true, "d9799d7bff3e3c7d989e0650ce40769d43777f370fa3378393bffd3edf6b2fa8"), looks := false }, kinds := [], alts := [], laidByText := true, laidKinds := [.data, .data], laidTests := true, laidLooks := .later }
def SetSaysUptoCardSaid : Prop := Claim7.holds Tryd.pinned (.plain (OpenSpec.upto setSaysSpec)) setSaysUptoCard

/-- THE SECOND FORM's CARD OF 'tallymanlaw10.SetAdds'. -/
def setAddsUptoCard : Claim7 := { stood := { row := setAddsUptoRow, standIns := [], harness := (true, "d9799d7bff3e3c7d989e0650ce40769d43777f370fa3378393bffd3edf6b2fa8"), looks := false }, kinds := [], alts := [], laidByText := true, laidKinds := [.data, .data], laidTests := true, laidLooks := .later }
def SetAddsUptoCardSaid : Prop := Claim7.holds Tryd.pinned (.plain (OpenSpec.upto setAddsSpec)) setAddsUptoCard
end Rows
end Go.Proofs.YtlidoikpfodpeaaDoor
