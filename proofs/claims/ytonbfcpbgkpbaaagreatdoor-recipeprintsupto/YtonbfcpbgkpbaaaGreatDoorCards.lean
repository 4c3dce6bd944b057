/-
  DERIVED. GIVEN WITH THE SEED: THE CARDS: each row of YtonbfcpbgkpbaaaGreatDoorRows.lean that lists a variable, with what it lists TIED to the program's text (the seventh form; the later family's looks); each row that meets fmt, with fmt's text TOLD by the authors' own Lean function (tested against real Go, not proved from fmt's source: count such statements apart). THE CARD IS WHAT COUNTS. Prove the row's statement (the work); the ties are given (YtonbfcpbgkpbaaaGreatDoorTie.lean); close each card by the builder's one call (the guide's Derived/Test/ToyasCard.lean, 'card_holds'). Laid BY PROGRAM, IN A SANDBOX (cutbox-door.mjs). By AI agents, Wed Nov 11 2026. No macro, syntax, notation, axiom, sorry.
-/
import Derived.Test.YtonbfcpbgkpbaaaGreatDoorRows
import GoSem.ClaimSeven
namespace Go.Proofs.YtonbfcpbgkpbaaaGreatDoor
namespace Rows

/-- THE TIED CARD OF 'tesseralaw7.RecipePrints'. -/
def recipePrintsCard : Claim7 := { stood := { row := recipePrintsRow, standIns := [], harness := (true, "f0ebf9a09e2e5ff8e7369499353dee6ccff8293af2906a97edec022a384dc653"), looks := false }, kinds := [], alts := [], laidByText := true, laidKinds := [.data, .data, .data], laidTests := true, laidLooks := .later }
def RecipePrintsCardSaid : Prop := Claim7.holds Tryz.pinned (.plain (OpenSpec.ofChange recipePrintsSpec)) recipePrintsCard

/-- THE SECOND FORM's CARD OF 'tesseralaw7.RecipePrints'. -/
def recipePrintsUptoCard : Claim7 := { stood := { row := recipePrintsUptoRow, standIns := [], harness := (true, "f0ebf9a09e2e5ff8e7369499353dee6ccff8293af2906a97edec022a384dc653"), looks := false }, kinds := [], alts := [], laidByText := true, laidKinds := [.data, .data, .data], laidTests := true, laidLooks := .later }
def RecipePrintsUptoCardSaid : Prop := Claim7.holds Tryz.pinned (.plain (OpenSpec.upto recipePrintsSpec)) recipePrintsUptoCard
end Rows
end Go.Proofs.YtonbfcpbgkpbaaaGreatDoor
