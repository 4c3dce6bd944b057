/-
  DERIVED. GIVEN WITH THE SEED: THE CARDS: each row of YtjbdhakogbolkabDoorRows.lean that lists a variable, with what it lists TIED to the program's text (the seventh form; the later family's looks); each row that meets fmt, with fmt's text TOLD by the authors' own Lean function (tested against real Go, not proved from fmt's source: count such statements apart). THE CARD IS WHAT COUNTS. Prove the row's statement (the work); the ties are given (YtjbdhakogbolkabDoorTie.lean); close each card by the builder's one call (the guide's Derived/Test/ToyasCard.lean, 'card_holds'). Laid BY PROGRAM, IN A SANDBOX (cutbox-door.mjs). By AI agents, Wed Nov 11 2026. No macro, syntax, notation, axiom, sorry.
-/
import Derived.Test.YtjbdhakogbolkabDoorRows
import GoSem.ClaimSeven
namespace Go.Proofs.YtjbdhakogbolkabDoor
namespace Rows

/-- THE TIED CARD OF 'tesseralaw10.BpeKept'. -/
def bpeKeptCard : Claim7 := { stood := { row := bpeKeptRow, standIns := [], harness := (true, "d6a7006578dc9235cc00abd36e707fe3c6af28c56df739b7df169b09b1ef0af9"), looks := false }, kinds := [], alts := [], laidByText := true, laidKinds := [.data, .data], laidTests := true, laidLooks := .later }
def BpeKeptCardSaid : Prop := Claim7.holds Tryd.pinned (.plain (OpenSpec.ofChange bpeKeptSpec)) bpeKeptCard

/-- THE SECOND FORM's CARD OF 'tesseralaw10.BpeKept'. -/
def bpeKeptUptoCard : Claim7 := { stood := { row := bpeKeptUptoRow, standIns := [], harness := (true, "d6a7006578dc9235cc00abd36e707fe3c6af28c56df739b7df169b09b1ef0af9"), looks := false }, kinds := [], alts := [], laidByText := true, laidKinds := [.data, .data], laidTests := true, laidLooks := .later }
def BpeKeptUptoCardSaid : Prop := Claim7.holds Tryd.pinned (.plain (OpenSpec.upto bpeKeptSpec)) bpeKeptUptoCard
end Rows
end Go.Proofs.YtjbdhakogbolkabDoor
