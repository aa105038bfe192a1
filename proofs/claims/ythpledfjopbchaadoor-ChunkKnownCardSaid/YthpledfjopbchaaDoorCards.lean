/-
  DERIVED. GIVEN WITH THE SEED: THE CARDS: each row of YthpledfjopbchaaDoorRows.lean that lists a variable, with what it lists TIED to the program's text (the seventh form; the later family's looks); each row that meets fmt, with fmt's text TOLD by the authors' own Lean function (tested against real Go, not proved from fmt's source: count such statements apart). THE CARD IS WHAT COUNTS. Prove the row's statement (the work); the ties are given (YthpledfjopbchaaDoorTie.lean); close each card by the builder's one call (the guide's Derived/Test/ToyasCard.lean, 'card_holds'). Laid BY PROGRAM, IN A SANDBOX (cutbox-door.mjs). By AI agents, Wed Nov 11 2026. No macro, syntax, notation, axiom, sorry.
-/
import Derived.Test.YthpledfjopbchaaDoorRows
import GoSem.ClaimSeven
namespace Go.Proofs.YthpledfjopbchaaDoor
namespace Rows

/-- THE TIED CARD OF 'tallymanlaw11.ChunkKnown'. -/
def chunkKnownCard : Claim7 := { stood := { row := chunkKnownRow, standIns := [], harness := (true, "0dea899f3457dff31e0c68f5ffb727e7a058cd5012254fa35546082be8dc6c9c"), looks := false }, kinds := [], alts := [], laidByText := true, laidKinds := [.data, .data], laidTests := true, laidLooks := .later }
def ChunkKnownCardSaid : Prop := Claim7.holds Tryd.pinned (.plain (OpenSpec.ofChange chunkKnownSpec)) chunkKnownCard

/-- THE TIED CARD OF 'tallymanlaw11.ChunkSays'. -/
def chunkSaysCard : Claim7 := { stood := { row := chunkSaysRow, standIns := [], harness := (true, "0dea899f3457dff31e0c68f5ffb727e7a058cd5012254fa35546082be8dc6c9c"), looks := false }, kinds := [], alts := [], laidByText := true, laidKinds := [.data, .data], laidTests := true, laidLooks := .later }
def ChunkSaysCardSaid : Prop := Claim7.holds Tryd.pinned (.plain (OpenSpec.ofChange chunkSaysSpec)) chunkSaysCard

/-- THE TIED CARD OF 'tallymanlaw11.ChunkBack'. -/
def chunkBackCard : Claim7 := { stood := { row := chunkBackRow, standIns := [], harness := (true, "0dea899f3457dff31e0c68f5ffb727e7a058cd5012254fa35546082be8dc6c9c"), looks := false }, kinds := [], alts := [], laidByText := true, laidKinds := [.data, .data], laidTests := true, laidLooks := .later }
def ChunkBackCardSaid : Prop := Claim7.holds Tryd.pinned (.plain (OpenSpec.ofChange chunkBackSpec)) chunkBackCard

/-- THE TIED CARD OF 'tallymanlaw11.ChunkShares'. -/
def chunkSharesCard : Claim7 := { stood := { row := chunkSharesRow, standIns := [], harness := (true, "0dea899f3457dff31e0c68f5ffb727e7a058cd5012254fa35546082be8dc6c9c"), looks := false }, kinds := [], alts := [], laidByText := true, laidKinds := [.data, .data], laidTests := true, laidLooks := .later }
def ChunkSharesCardSaid : Prop := Claim7.holds Tryd.pinned (.plain (OpenSpec.ofChange chunkSharesSpec)) chunkSharesCard

/-- THE TIED CARD OF 'tallymanlaw11.ChunkAll'. -/
def chunkAllCard : Claim7 := { stood := { row := chunkAllRow, standIns := [], harness := (true, "0dea899f3457dff31e0c68f5ffb727e7a058cd5012254fa35546082be8dc6c9c"), looks := false }, kinds := [], alts := [], laidByText := true, laidKinds := [.data, .data], laidTests := true, laidLooks := .later }
def ChunkAllCardSaid : Prop := Claim7.holds Tryd.pinned (.plain (OpenSpec.ofChange chunkAllSpec)) chunkAllCard

/-- THE SECOND FORM's CARD OF 'tallymanlaw11.ChunkKnown'. -/
def chunkKnownUptoCard : Claim7 := { stood := { row := chunkKnownUptoRow, standIns := [], harness := (true, "0dea899f3457dff31e0c68f5ffb727e7a058cd5012254fa35546082be8dc6c9c"), looks := false }, kinds := [], alts := [], laidByText := true, laidKinds := [.data, .data], laidTests := true, laidLooks := .later }
def ChunkKnownUptoCardSaid : Prop := Claim7.holds Tryd.pinned (.plain (OpenSpec.upto chunkKnownSpec)) chunkKnownUptoCard

/-- THE SECOND FORM's CARD OF 'tallymanlaw11.ChunkSays'. -/
def chunkSaysUptoCard : Claim7 := { stood := { row := chunkSaysUptoRow, standIns := [], harness := (true, "0dea899f3457dff31e0c68f5ffb727e7a058cd5012254fa35546082be8dc6c9c"), looks := false }, kinds := [], alts := [], laidByText := true, laidKinds := [.data, .data], laidTests := true, laidLooks := .later }
def ChunkSaysUptoCardSaid : Prop := Claim7.holds Tryd.pinned (.plain (OpenSpec.upto chunkSaysSpec)) chunkSaysUptoCard

/-- THE SECOND FORM's CARD OF 'tallymanlaw11.ChunkBack'. -/
def chunkBackUptoCard : Claim7 := { stood := { row := chunkBackUptoRow, standIns := [], harness := (true, "0dea899f3457dff31e0c68f5ffb727e7a058cd5012254fa35546082be8dc6c9c"), looks := false }, kinds := [], alts := [], laidByText := true, laidKinds := [.data, .data], laidTests := true, laidLooks := .later }
def ChunkBackUptoCardSaid : Prop := Claim7.holds Tryd.pinned (.plain (OpenSpec.upto chunkBackSpec)) chunkBackUptoCard

/-- THE SECOND FORM's CARD OF 'tallymanlaw11.ChunkShares'. -/
def chunkSharesUptoCard : Claim7 := { stood := { row := chunkSharesUptoRow, standIns := [], harness := (true, "0dea899f3457dff31e0c68f5ffb727e7a058cd5012254fa35546082be8dc6c9c"), looks := false }, kinds := [], alts := [], laidByText := true, laidKinds := [.data, .data], laidTests := true, laidLooks := .later }
def ChunkSharesUptoCardSaid : Prop := Claim7.holds Tryd.pinned (.plain (OpenSpec.upto chunkSharesSpec)) chunkSharesUptoCard

/-- THE SECOND FORM's CARD OF 'tallymanlaw11.ChunkAll'. -/
def chunkAllUptoCard : Claim7 := { stood := { row := chunkAllUptoRow, standIns := [], harness := (true, "0dea899f3457dff31e0c68f5ffb727e7a058cd5012254fa35546082be8dc6c9c"), looks := false }, kinds := [], alts := [], laidByText := true, laidKinds := [.data, .data], laidTests := true, laidLooks := .later }
def ChunkAllUptoCardSaid : Prop := Claim7.holds Tryd.pinned (.plain (OpenSpec.upto chunkAllSpec)) chunkAllUptoCard
end Rows
end Go.Proofs.YthpledfjopbchaaDoor
