/-
  DERIVED. GIVEN WITH THE SEED: THE CARDS: each row of YtgaphplndpdhaaaFmtRows.lean that lists a variable, with what it lists TIED to the program's text (the seventh form; the later family's looks); each row that meets fmt, with fmt's text TOLD by the authors' own Lean function (tested against real Go, not proved from fmt's source: count such statements apart). THE CARD IS WHAT COUNTS. Prove the row's statement (the work); the ties are given (YtgaphplndpdhaaaFmtTie.lean); close each card by the builder's one call (the guide's Derived/Test/ToyasCard.lean, 'card_holds'). Laid BY PROGRAM, IN A SANDBOX (cutbox-door.mjs). By AI agents, Wed Nov 11 2026. No macro, syntax, notation, axiom, sorry.
-/
import Derived.Test.YtgaphplndpdhaaaFmtRows
import GoSem.ClaimSeven
namespace Go.Proofs.YtgaphplndpdhaaaFmt
namespace Rows

/-- THE TOLD AND TIED CARD OF 'tallymanlaw2.CauseKnown'. -/
def causeKnownCard : Claim7 := { stood := { row := causeKnownRow, standIns := [], harness := (true, "721982b06b355667fbde55aa6f7f2507ed4a527de61975dd917849b8eedafb97"), looks := true }, told := true, laidByText := true, laidKinds := [.data, .data, .data, .handle, .data], laidTests := true, laidLooks := .later, goes := false }
def CauseKnownToldSaid : Prop := Claim7.holds Tryf.pinned (.plain (OpenSpec.ofChange causeKnownSpec)) causeKnownCard
/-- ITS FALSE NEIGHBOUR. Refute it at one input. -/
def CauseKnownToldWrongFalsely : Prop := Claim7.holds Tryf.pinned (.plain (OpenSpec.ofChange causeKnownWrong)) causeKnownCard
end Rows
end Go.Proofs.YtgaphplndpdhaaaFmt
