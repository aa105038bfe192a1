/-
  DERIVED. GIVEN WITH THE SEED: THE CARDS: each row of YtmjonlffhhehjaaGreatDoorRows.lean that lists a variable, with what it lists TIED to the program's text (the seventh form; the later family's looks); each row that meets fmt, with fmt's text TOLD by the authors' own Lean function (tested against real Go, not proved from fmt's source: count such statements apart). THE CARD IS WHAT COUNTS. Prove the row's statement (the work); the ties are given (YtmjonlffhhehjaaGreatDoorTie.lean); close each card by the builder's one call (the guide's Derived/Test/ToyasCard.lean, 'card_holds'). Laid BY PROGRAM, IN A SANDBOX (cutbox-door.mjs). By AI agents, Wed Nov 11 2026. No macro, syntax, notation, axiom, sorry.
-/
import Derived.Test.YtmjonlffhhehjaaGreatDoorRows
import GoSem.ClaimSeven
namespace Go.Proofs.YtmjonlffhhehjaaGreatDoor
namespace Rows

/-- THE TIED CARD OF 'tallymanlaw12.RecipeKnown'. -/
def recipeKnownCard : Claim7 := { stood := { row := recipeKnownRow, standIns := [], harness := (true, "4eb5c953bcc94a801330f61f702d4e685ed4040cfa818e77eb828d97076f4b08"), looks := false }, kinds := [], alts := [], laidByText := true, laidKinds := [.data, .data, .data, .pinned], laidTests := true, laidLooks := .later }
def RecipeKnownCardSaid : Prop := Claim7.holds Tryz.pinned (.plain (OpenSpec.ofChange recipeKnownSpec)) recipeKnownCard

/-- THE TIED CARD OF 'tallymanlaw12.RecipeSays'. -/
def recipeSaysCard : Claim7 := { stood := { row := recipeSaysRow, standIns := [], harness := (true, "4eb5c953bcc94a801330f61f702d4e685ed4040cfa818e77eb828d97076f4b08"), looks := false }, kinds := [], alts := [], laidByText := true, laidKinds := [.data, .data, .data, .pinned], laidTests := true, laidLooks := .later }
def RecipeSaysCardSaid : Prop := Claim7.holds Tryz.pinned (.plain (OpenSpec.ofChange recipeSaysSpec)) recipeSaysCard

/-- THE TIED CARD OF 'tallymanlaw12.RecipeBack'. -/
def recipeBackCard : Claim7 := { stood := { row := recipeBackRow, standIns := [], harness := (true, "4eb5c953bcc94a801330f61f702d4e685ed4040cfa818e77eb828d97076f4b08"), looks := false }, kinds := [], alts := [], laidByText := true, laidKinds := [.data, .data, .data, .pinned], laidTests := true, laidLooks := .later }
def RecipeBackCardSaid : Prop := Claim7.holds Tryz.pinned (.plain (OpenSpec.ofChange recipeBackSpec)) recipeBackCard

/-- THE TIED CARD OF 'tallymanlaw12.RecipeTells'. -/
def recipeTellsCard : Claim7 := { stood := { row := recipeTellsRow, standIns := [], harness := (true, "4eb5c953bcc94a801330f61f702d4e685ed4040cfa818e77eb828d97076f4b08"), looks := false }, kinds := [], alts := [], laidByText := true, laidKinds := [.data, .data, .data, .pinned], laidTests := true, laidLooks := .later }
def RecipeTellsCardSaid : Prop := Claim7.holds Tryz.pinned (.plain (OpenSpec.ofChange recipeTellsSpec)) recipeTellsCard

/-- THE TIED CARD OF 'tallymanlaw12.RecipeNeeds'. -/
def recipeNeedsCard : Claim7 := { stood := { row := recipeNeedsRow, standIns := [], harness := (true, "4eb5c953bcc94a801330f61f702d4e685ed4040cfa818e77eb828d97076f4b08"), looks := false }, kinds := [], alts := [], laidByText := true, laidKinds := [.data, .data, .data, .pinned], laidTests := true, laidLooks := .later }
def RecipeNeedsCardSaid : Prop := Claim7.holds Tryz.pinned (.plain (OpenSpec.ofChange recipeNeedsSpec)) recipeNeedsCard

/-- THE SECOND FORM's CARD OF 'tallymanlaw12.RecipeKnown'. -/
def recipeKnownUptoCard : Claim7 := { stood := { row := recipeKnownUptoRow, standIns := [], harness := (true, "4eb5c953bcc94a801330f61f702d4e685ed4040cfa818e77eb828d97076f4b08"), looks := false }, kinds := [], alts := [], laidByText := true, laidKinds := [.data, .data, .data, .pinned], laidTests := true, laidLooks := .later }
def RecipeKnownUptoCardSaid : Prop := Claim7.holds Tryz.pinned (.plain (OpenSpec.upto recipeKnownSpec)) recipeKnownUptoCard

/-- THE SECOND FORM's CARD OF 'tallymanlaw12.RecipeSays'. -/
def recipeSaysUptoCard : Claim7 := { stood := { row := recipeSaysUptoRow, standIns := [], harness := (true, "4eb5c953bcc94a801330f61f702d4e685ed4040cfa818e77eb828d97076f4b08"), looks := false }, kinds := [], alts := [], laidByText := true, laidKinds := [.data, .data, .data, .pinned], laidTests := true, laidLooks := .later }
def RecipeSaysUptoCardSaid : Prop := Claim7.holds Tryz.pinned (.plain (OpenSpec.upto recipeSaysSpec)) recipeSaysUptoCard

/-- THE SECOND FORM's CARD OF 'tallymanlaw12.RecipeBack'. -/
def recipeBackUptoCard : Claim7 := { stood := { row := recipeBackUptoRow, standIns := [], harness := (true, "4eb5c953bcc94a801330f61f702d4e685ed4040cfa818e77eb828d97076f4b08"), looks := false }, kinds := [], alts := [], laidByText := true, laidKinds := [.data, .data, .data, .pinned], laidTests := true, laidLooks := .later }
def RecipeBackUptoCardSaid : Prop := Claim7.holds Tryz.pinned (.plain (OpenSpec.upto recipeBackSpec)) recipeBackUptoCard

/-- THE SECOND FORM's CARD OF 'tallymanlaw12.RecipeTells'. -/
def recipeTellsUptoCard : Claim7 := { stood := { row := recipeTellsUptoRow, standIns := [], harness := (true, "4eb5c953bcc94a801330f61f702d4e685ed4040cfa818e77eb828d97076f4b08"), looks := false }, kinds := [], alts := [], laidByText := true, laidKinds := [.data, .data, .data, .pinned], laidTests := true, laidLooks := .later }
def RecipeTellsUptoCardSaid : Prop := Claim7.holds Tryz.pinned (.plain (OpenSpec.upto recipeTellsSpec)) recipeTellsUptoCard

/-- THE SECOND FORM's CARD OF 'tallymanlaw12.RecipeNeeds'. -/
def recipeNeedsUptoCard : Claim7 := { stood := { row := recipeNeedsUptoRow, standIns := [], harness := (true, "4eb5c953bcc94a801330f61f702d4e685ed4040cfa818e77eb828d97076f4b08"), looks := false }, kinds := [], alts := [], laidByText := true, laidKinds := [.data, .data, .data, .pinned], laidTests := true, laidLooks := .later }
def RecipeNeedsUptoCardSaid : Prop := Claim7.holds Tryz.pinned (.plain (OpenSpec.upto recipeNeedsSpec)) recipeNeedsUptoCard
end Rows
end Go.Proofs.YtmjonlffhhehjaaGreatDoor
