/-
  DERIVED. GIVEN WITH THE SEED: THE CARDS: each row of YtpfckamobjcdhaaDoorRows.lean that lists a variable, with what it lists TIED to the program's text (the seventh form; the later family's looks); each row that meets fmt, with fmt's text TOLD by the authors' own Lean function (tested against real Go, not proved from fmt's source: count such statements apart). THE CARD IS WHAT COUNTS. Prove the row's statement (the work); the ties are given (YtpfckamobjcdhaaDoorTie.lean); close each card by the builder's one call (the guide's Derived/Test/ToyasCard.lean, 'card_holds'). Laid BY PROGRAM, IN A SANDBOX (cutbox-door.mjs). By AI agents, Wed Nov 11 2026. No macro, syntax, notation, axiom, sorry.
-/
import Derived.Test.YtpfckamobjcdhaaDoorRows
import GoSem.ClaimSeven
namespace Go.Proofs.YtpfckamobjcdhaaDoor
namespace Rows

/-- THE TIED CARD OF 'tallymanlaw1.SumKnown'. -/
def sumKnownCard : Claim7 := { stood := { row := sumKnownRow, standIns := [], harness := (true, "12aa4f88f4682e90071812df7707b7412e59ab18a64f6e36f71bd15755c477cb"), looks := false }, kinds := [], alts := [], laidByText := true, laidKinds := [.data, .data], laidTests := true, laidLooks := .later }
def SumKnownCardSaid : Prop := Claim7.holds Tryd.pinned (.plain (OpenSpec.ofChange sumKnownSpec)) sumKnownCard

/-- THE TIED CARD OF 'tallymanlaw1.SumSays'. -/
def sumSaysCard : Claim7 := { stood := { row := sumSaysRow, standIns := [], harness := (true, "12aa4f88f4682e90071812df7707b7412e59ab18a64f6e36f71bd15755c477cb"), looks := false }, kinds := [], alts := [], laidByText := true, laidKinds := [.data, .data], laidTests := true, laidLooks := .later }
def SumSaysCardSaid : Prop := Claim7.holds Tryd.pinned (.plain (OpenSpec.ofChange sumSaysSpec)) sumSaysCard

/-- THE TIED CARD OF 'tallymanlaw1.SumRaw'. -/
def sumRawCard : Claim7 := { stood := { row := sumRawRow, standIns := [], harness := (true, "12aa4f88f4682e90071812df7707b7412e59ab18a64f6e36f71bd15755c477cb"), looks := false }, kinds := [], alts := [], laidByText := true, laidKinds := [.data, .data], laidTests := true, laidLooks := .later }
def SumRawCardSaid : Prop := Claim7.holds Tryd.pinned (.plain (OpenSpec.ofChange sumRawSpec)) sumRawCard

/-- THE TIED CARD OF 'tallymanlaw1.SumParts'. -/
def sumPartsCard : Claim7 := { stood := { row := sumPartsRow, standIns := [], harness := (true, "12aa4f88f4682e90071812df7707b7412e59ab18a64f6e36f71bd15755c477cb"), looks := false }, kinds := [], alts := [], laidByText := true, laidKinds := [.data, .data], laidTests := true, laidLooks := .later }
def SumPartsCardSaid : Prop := Claim7.holds Tryd.pinned (.plain (OpenSpec.ofChange sumPartsSpec)) sumPartsCard

/-- THE TIED CARD OF 'tallymanlaw1.SumXors'. -/
def sumXorsCard : Claim7 := { stood := { row := sumXorsRow, standIns := [], harness := (true, "12aa4f88f4682e90071812df7707b7412e59ab18a64f6e36f71bd15755c477cb"), looks := false }, kinds := [], alts := [], laidByText := true, laidKinds := [.data, .data], laidTests := true, laidLooks := .later }
def SumXorsCardSaid : Prop := Claim7.holds Tryd.pinned (.plain (OpenSpec.ofChange sumXorsSpec)) sumXorsCard

/-- THE TIED CARD OF 'tallymanlaw1.SumOrder'. -/
def sumOrderCard : Claim7 := { stood := { row := sumOrderRow, standIns := [], harness := (true, "12aa4f88f4682e90071812df7707b7412e59ab18a64f6e36f71bd15755c477cb"), looks := false }, kinds := [], alts := [], laidByText := true, laidKinds := [.data, .data], laidTests := true, laidLooks := .later }
def SumOrderCardSaid : Prop := Claim7.holds Tryd.pinned (.plain (OpenSpec.ofChange sumOrderSpec)) sumOrderCard

/-- THE SECOND FORM's CARD OF 'tallymanlaw1.SumKnown'. -/
def sumKnownUptoCard : Claim7 := { stood := { row := sumKnownUptoRow, standIns := [], harness := (true, "12aa4f88f4682e90071812df7707b7412e59ab18a64f6e36f71bd15755c477cb"), looks := false }, kinds := [], alts := [], laidByText := true, laidKinds := [.data, .data], laidTests := true, laidLooks := .later }
def SumKnownUptoCardSaid : Prop := Claim7.holds Tryd.pinned (.plain (OpenSpec.upto sumKnownSpec)) sumKnownUptoCard

/-- THE SECOND FORM's CARD OF 'tallymanlaw1.SumSays'. -/
def sumSaysUptoCard : Claim7 := { stood := { row := sumSaysUptoRow, standIns := [], harness := (true, "12aa4f88f4682e90071812df7707b7412e59ab18a64f6e36f71bd15755c477cb"), looks := false }, kinds := [], alts := [], laidByText := true, laidKinds := [.data, .data], laidTests := true, laidLooks := .later }
def SumSaysUptoCardSaid : Prop := Claim7.holds Tryd.pinned (.plain (OpenSpec.upto sumSaysSpec)) sumSaysUptoCard

/-- THE SECOND FORM's CARD OF 'tallymanlaw1.SumRaw'. -/
def sumRawUptoCard : Claim7 := { stood := { row := sumRawUptoRow, standIns := [], harness := (true, "12aa4f88f4682e90071812df7707b7412e59ab18a64f6e36f71bd15755c477cb"), looks := false }, kinds := [], alts := [], laidByText := true, laidKinds := [.data, .data], laidTests := true, laidLooks := .later }
def SumRawUptoCardSaid : Prop := Claim7.holds Tryd.pinned (.plain (OpenSpec.upto sumRawSpec)) sumRawUptoCard

/-- THE SECOND FORM's CARD OF 'tallymanlaw1.SumParts'. -/
def sumPartsUptoCard : Claim7 := { stood := { row := sumPartsUptoRow, standIns := [], harness := (true, "12aa4f88f4682e90071812df7707b7412e59ab18a64f6e36f71bd15755c477cb"), looks := false }, kinds := [], alts := [], laidByText := true, laidKinds := [.data, .data], laidTests := true, laidLooks := .later }
def SumPartsUptoCardSaid : Prop := Claim7.holds Tryd.pinned (.plain (OpenSpec.upto sumPartsSpec)) sumPartsUptoCard

/-- THE SECOND FORM's CARD OF 'tallymanlaw1.SumXors'. -/
def sumXorsUptoCard : Claim7 := { stood := { row := sumXorsUptoRow, standIns := [], harness := (true, "12aa4f88f4682e90071812df7707b7412e59ab18a64f6e36f71bd15755c477cb"), looks := false }, kinds := [], alts := [], laidByText := true, laidKinds := [.data, .data], laidTests := true, laidLooks := .later }
def SumXorsUptoCardSaid : Prop := Claim7.holds Tryd.pinned (.plain (OpenSpec.upto sumXorsSpec)) sumXorsUptoCard

/-- THE SECOND FORM's CARD OF 'tallymanlaw1.SumOrder'. -/
def sumOrderUptoCard : Claim7 := { stood := { row := sumOrderUptoRow, standIns := [], harness := (true, "12aa4f88f4682e90071812df7707b7412e59ab18a64f6e36f71bd15755c477cb"), looks := false }, kinds := [], alts := [], laidByText := true, laidKinds := [.data, .data], laidTests := true, laidLooks := .later }
def SumOrderUptoCardSaid : Prop := Claim7.holds Tryd.pinned (.plain (OpenSpec.upto sumOrderSpec)) sumOrderUptoCard
end Rows
end Go.Proofs.YtpfckamobjcdhaaDoor
