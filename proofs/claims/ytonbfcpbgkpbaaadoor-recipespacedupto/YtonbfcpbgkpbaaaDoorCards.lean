/-
  DERIVED. GIVEN WITH THE SEED: THE CARDS: each row of YtonbfcpbgkpbaaaDoorRows.lean that lists a variable, with what it lists TIED to the program's text (the seventh form; the later family's looks); each row that meets fmt, with fmt's text TOLD by the authors' own Lean function (tested against real Go, not proved from fmt's source: count such statements apart). THE CARD IS WHAT COUNTS. Prove the row's statement (the work); the ties are given (YtonbfcpbgkpbaaaDoorTie.lean); close each card by the builder's one call (the guide's Derived/Test/ToyasCard.lean, 'card_holds'). Laid BY PROGRAM, IN A SANDBOX (cutbox-door.mjs). By AI agents, Wed Nov 11 2026. No macro, syntax, notation, axiom, sorry.
-/
import Derived.Test.YtonbfcpbgkpbaaaDoorRows
import GoSem.ClaimSeven
namespace Go.Proofs.YtonbfcpbgkpbaaaDoor
namespace Rows

/-- THE TIED CARD OF 'tesseralaw7.RecipeNumbers'. -/
def recipeNumbersCard : Claim7 := { stood := { row := recipeNumbersRow, standIns := [], harness := (true, "7887afe00eec6afdac7fb5ab8cc4cbbce8c5947f23ba37476b234c894b53cdbe"), looks := false }, kinds := [], alts := [], laidByText := true, laidKinds := [.data, .data, .data], laidTests := true, laidLooks := .later }
def RecipeNumbersCardSaid : Prop := Claim7.holds Tryd.pinned (.plain (OpenSpec.ofChange recipeNumbersSpec)) recipeNumbersCard

/-- THE TIED CARD OF 'tesseralaw7.RecipeBack'. -/
def recipeBackCard : Claim7 := { stood := { row := recipeBackRow, standIns := [], harness := (true, "7887afe00eec6afdac7fb5ab8cc4cbbce8c5947f23ba37476b234c894b53cdbe"), looks := false }, kinds := [], alts := [], laidByText := true, laidKinds := [.data, .data, .data], laidTests := true, laidLooks := .later }
def RecipeBackCardSaid : Prop := Claim7.holds Tryd.pinned (.plain (OpenSpec.ofChange recipeBackSpec)) recipeBackCard

/-- THE TIED CARD OF 'tesseralaw7.RecipeSpaced'. -/
def recipeSpacedCard : Claim7 := { stood := { row := recipeSpacedRow, standIns := [], harness := (true, "7887afe00eec6afdac7fb5ab8cc4cbbce8c5947f23ba37476b234c894b53cdbe"), looks := false }, kinds := [], alts := [], laidByText := true, laidKinds := [.data, .data, .data], laidTests := true, laidLooks := .later }
def RecipeSpacedCardSaid : Prop := Claim7.holds Tryd.pinned (.plain (OpenSpec.ofChange recipeSpacedSpec)) recipeSpacedCard

/-- THE SECOND FORM's CARD OF 'tesseralaw7.RecipeNumbers'. -/
def recipeNumbersUptoCard : Claim7 := { stood := { row := recipeNumbersUptoRow, standIns := [], harness := (true, "7887afe00eec6afdac7fb5ab8cc4cbbce8c5947f23ba37476b234c894b53cdbe"), looks := false }, kinds := [], alts := [], laidByText := true, laidKinds := [.data, .data, .data], laidTests := true, laidLooks := .later }
def RecipeNumbersUptoCardSaid : Prop := Claim7.holds Tryd.pinned (.plain (OpenSpec.upto recipeNumbersSpec)) recipeNumbersUptoCard

/-- THE SECOND FORM's CARD OF 'tesseralaw7.RecipeBack'. -/
def recipeBackUptoCard : Claim7 := { stood := { row := recipeBackUptoRow, standIns := [], harness := (true, "7887afe00eec6afdac7fb5ab8cc4cbbce8c5947f23ba37476b234c894b53cdbe"), looks := false }, kinds := [], alts := [], laidByText := true, laidKinds := [.data, .data, .data], laidTests := true, laidLooks := .later }
def RecipeBackUptoCardSaid : Prop := Claim7.holds Tryd.pinned (.plain (OpenSpec.upto recipeBackSpec)) recipeBackUptoCard

/-- THE SECOND FORM's CARD OF 'tesseralaw7.RecipeSpaced'. -/
def recipeSpacedUptoCard : Claim7 := { stood := { row := recipeSpacedUptoRow, standIns := [], harness := (true, "7887afe00eec6afdac7fb5ab8cc4cbbce8c5947f23ba37476b234c894b53cdbe"), looks := false }, kinds := [], alts := [], laidByText := true, laidKinds := [.data, .data, .data], laidTests := true, laidLooks := .later }
def RecipeSpacedUptoCardSaid : Prop := Claim7.holds Tryd.pinned (.plain (OpenSpec.upto recipeSpacedSpec)) recipeSpacedUptoCard
end Rows
end Go.Proofs.YtonbfcpbgkpbaaaDoor
