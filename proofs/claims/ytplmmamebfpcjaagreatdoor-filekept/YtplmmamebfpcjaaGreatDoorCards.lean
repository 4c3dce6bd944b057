/-
  DERIVED. GIVEN WITH THE SEED: THE CARDS: each row of YtplmmamebfpcjaaGreatDoorRows.lean that lists a variable, with what it lists TIED to the program's text (the seventh form; the later family's looks); each row that meets fmt, with fmt's text TOLD by the authors' own Lean function (tested against real Go, not proved from fmt's source: count such statements apart). THE CARD IS WHAT COUNTS. Prove the row's statement (the work); the ties are given (YtplmmamebfpcjaaGreatDoorTie.lean); close each card by the builder's one call (the guide's Derived/Test/ToyasCard.lean, 'card_holds'). Laid BY PROGRAM, IN A SANDBOX (cutbox-door.mjs). By AI agents, Wed Nov 11 2026. No macro, syntax, notation, axiom, sorry.
-/
import Derived.Test.YtplmmamebfpcjaaGreatDoorRows
import GoSem.ClaimSeven
namespace Go.Proofs.YtplmmamebfpcjaaGreatDoor
namespace Rows

/-- THE TIED CARD OF 'tesseralaw6.FileSaves'. -/
def fileSavesCard : Claim7 := { stood := { row := fileSavesRow, standIns := [], harness := (true, "3dbd5897b7d15f932c5800351e79d109a334701fbca581ac31ea69625bada0a4"), looks := true }, kinds := [], alts := [], laidByText := true, laidKinds := [.data, .data, .data, .data, .data], laidTests := true, laidLooks := .later }
def FileSavesCardSaid : Prop := Claim7.holds Tryz.pinned (.plain (OpenSpec.ofChange fileSavesSpec)) fileSavesCard

/-- THE TIED CARD OF 'tesseralaw6.FileLoads'. -/
def fileLoadsCard : Claim7 := { stood := { row := fileLoadsRow, standIns := [], harness := (true, "3dbd5897b7d15f932c5800351e79d109a334701fbca581ac31ea69625bada0a4"), looks := true }, kinds := [], alts := [], laidByText := true, laidKinds := [.data, .data, .data, .data, .data], laidTests := true, laidLooks := .later }
def FileLoadsCardSaid : Prop := Claim7.holds Tryz.pinned (.plain (OpenSpec.ofChange fileLoadsSpec)) fileLoadsCard

/-- THE TIED CARD OF 'tesseralaw6.FileBack'. -/
def fileBackCard : Claim7 := { stood := { row := fileBackRow, standIns := [], harness := (true, "3dbd5897b7d15f932c5800351e79d109a334701fbca581ac31ea69625bada0a4"), looks := true }, kinds := [], alts := [], laidByText := true, laidKinds := [.data, .data, .data, .data, .data], laidTests := true, laidLooks := .later }
def FileBackCardSaid : Prop := Claim7.holds Tryz.pinned (.plain (OpenSpec.ofChange fileBackSpec)) fileBackCard

/-- THE TIED CARD OF 'tesseralaw6.FileTurned'. -/
def fileTurnedCard : Claim7 := { stood := { row := fileTurnedRow, standIns := [], harness := (true, "3dbd5897b7d15f932c5800351e79d109a334701fbca581ac31ea69625bada0a4"), looks := true }, kinds := [], alts := [], laidByText := true, laidKinds := [.data, .data, .data, .data, .data], laidTests := true, laidLooks := .later }
def FileTurnedCardSaid : Prop := Claim7.holds Tryz.pinned (.plain (OpenSpec.ofChange fileTurnedSpec)) fileTurnedCard

/-- THE TIED CARD OF 'tesseralaw6.FileKept'. -/
def fileKeptCard : Claim7 := { stood := { row := fileKeptRow, standIns := [], harness := (true, "3dbd5897b7d15f932c5800351e79d109a334701fbca581ac31ea69625bada0a4"), looks := true }, kinds := [], alts := [], laidByText := true, laidKinds := [.data, .data, .data, .data, .data], laidTests := true, laidLooks := .later }
def FileKeptCardSaid : Prop := Claim7.holds Tryz.pinned (.plain (OpenSpec.ofChange fileKeptSpec)) fileKeptCard

/-- THE SECOND FORM's CARD OF 'tesseralaw6.FileSaves'. -/
def fileSavesUptoCard : Claim7 := { stood := { row := fileSavesUptoRow, standIns := [], harness := (true, "3dbd5897b7d15f932c5800351e79d109a334701fbca581ac31ea69625bada0a4"), looks := true }, kinds := [], alts := [], laidByText := true, laidKinds := [.data, .data, .data, .data, .data], laidTests := true, laidLooks := .later }
def FileSavesUptoCardSaid : Prop := Claim7.holds Tryz.pinned (.plain (OpenSpec.upto fileSavesSpec)) fileSavesUptoCard

/-- THE SECOND FORM's CARD OF 'tesseralaw6.FileLoads'. -/
def fileLoadsUptoCard : Claim7 := { stood := { row := fileLoadsUptoRow, standIns := [], harness := (true, "3dbd5897b7d15f932c5800351e79d109a334701fbca581ac31ea69625bada0a4"), looks := true }, kinds := [], alts := [], laidByText := true, laidKinds := [.data, .data, .data, .data, .data], laidTests := true, laidLooks := .later }
def FileLoadsUptoCardSaid : Prop := Claim7.holds Tryz.pinned (.plain (OpenSpec.upto fileLoadsSpec)) fileLoadsUptoCard

/-- THE SECOND FORM's CARD OF 'tesseralaw6.FileBack'. -/
def fileBackUptoCard : Claim7 := { stood := { row := fileBackUptoRow, standIns := [], harness := (true, "3dbd5897b7d15f932c5800351e79d109a334701fbca581ac31ea69625bada0a4"), looks := true }, kinds := [], alts := [], laidByText := true, laidKinds := [.data, .data, .data, .data, .data], laidTests := true, laidLooks := .later }
def FileBackUptoCardSaid : Prop := Claim7.holds Tryz.pinned (.plain (OpenSpec.upto fileBackSpec)) fileBackUptoCard

/-- THE SECOND FORM's CARD OF 'tesseralaw6.FileTurned'. -/
def fileTurnedUptoCard : Claim7 := { stood := { row := fileTurnedUptoRow, standIns := [], harness := (true, "3dbd5897b7d15f932c5800351e79d109a334701fbca581ac31ea69625bada0a4"), looks := true }, kinds := [], alts := [], laidByText := true, laidKinds := [.data, .data, .data, .data, .data], laidTests := true, laidLooks := .later }
def FileTurnedUptoCardSaid : Prop := Claim7.holds Tryz.pinned (.plain (OpenSpec.upto fileTurnedSpec)) fileTurnedUptoCard

/-- THE SECOND FORM's CARD OF 'tesseralaw6.FileKept'. -/
def fileKeptUptoCard : Claim7 := { stood := { row := fileKeptUptoRow, standIns := [], harness := (true, "3dbd5897b7d15f932c5800351e79d109a334701fbca581ac31ea69625bada0a4"), looks := true }, kinds := [], alts := [], laidByText := true, laidKinds := [.data, .data, .data, .data, .data], laidTests := true, laidLooks := .later }
def FileKeptUptoCardSaid : Prop := Claim7.holds Tryz.pinned (.plain (OpenSpec.upto fileKeptSpec)) fileKeptUptoCard
end Rows
end Go.Proofs.YtplmmamebfpcjaaGreatDoor
