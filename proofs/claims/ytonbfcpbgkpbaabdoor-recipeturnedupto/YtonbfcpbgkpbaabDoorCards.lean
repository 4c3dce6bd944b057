/-
  DERIVED. GIVEN WITH THE SEED: THE CARDS: each row of YtonbfcpbgkpbaabDoorRows.lean that lists a variable, with what it lists TIED to the program's text (the seventh form; the later family's looks); each row that meets fmt, with fmt's text TOLD by the authors' own Lean function (tested against real Go, not proved from fmt's source: count such statements apart). THE CARD IS WHAT COUNTS. Prove the row's statement (the work); the ties are given (YtonbfcpbgkpbaabDoorTie.lean); close each card by the builder's one call (the guide's Derived/Test/ToyasCard.lean, 'card_holds'). Laid BY PROGRAM, IN A SANDBOX (cutbox-door.mjs). By AI agents, Wed Nov 11 2026. No macro, syntax, notation, axiom, sorry.
-/
import Derived.Test.YtonbfcpbgkpbaabDoorRows
import GoSem.ClaimSeven
namespace Go.Proofs.YtonbfcpbgkpbaabDoor
namespace Rows

/-- THE TIED CARD OF 'tesseralaw7.RecipeTurned'. -/
def recipeTurnedCard : Claim7 := { stood := { row := recipeTurnedRow, standIns := [], harness := (true, "727358f27cf02492c3baf7e8e16669230364ee4e29b3d52ac703d77997c6caaf"), looks := false }, kinds := [], alts := [], laidByText := true, laidKinds := [.data, .data, .data], laidTests := true, laidLooks := .later }
def RecipeTurnedCardSaid : Prop := Claim7.holds Tryd.pinned (.plain (OpenSpec.ofChange recipeTurnedSpec)) recipeTurnedCard

/-- THE SECOND FORM's CARD OF 'tesseralaw7.RecipeTurned'. -/
def recipeTurnedUptoCard : Claim7 := { stood := { row := recipeTurnedUptoRow, standIns := [], harness := (true, "727358f27cf02492c3baf7e8e16669230364ee4e29b3d52ac703d77997c6caaf"), looks := false }, kinds := [], alts := [], laidByText := true, laidKinds := [.data, .data, .data], laidTests := true, laidLooks := .later }
def RecipeTurnedUptoCardSaid : Prop := Claim7.holds Tryd.pinned (.plain (OpenSpec.upto recipeTurnedSpec)) recipeTurnedUptoCard
end Rows
end Go.Proofs.YtonbfcpbgkpbaabDoor
