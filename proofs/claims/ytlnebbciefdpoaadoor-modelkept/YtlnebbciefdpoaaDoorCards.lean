/-
  DERIVED. GIVEN WITH THE SEED: THE CARDS: each row of YtlnebbciefdpoaaDoorRows.lean that lists a variable, with what it lists TIED to the program's text (the seventh form; the later family's looks); each row that meets fmt, with fmt's text TOLD by the authors' own Lean function (tested against real Go, not proved from fmt's source: count such statements apart). THE CARD IS WHAT COUNTS. Prove the row's statement (the work); the ties are given (YtlnebbciefdpoaaDoorTie.lean); close each card by the builder's one call (the guide's Derived/Test/ToyasCard.lean, 'card_holds'). Laid BY PROGRAM, IN A SANDBOX (cutbox-door.mjs). By AI agents, Wed Nov 11 2026. No macro, syntax, notation, axiom, sorry.
-/
import Derived.Test.YtlnebbciefdpoaaDoorRows
import GoSem.ClaimSeven
namespace Go.Proofs.YtlnebbciefdpoaaDoor
namespace Rows

/-- THE TIED CARD OF 'tesseralaw5.ModelNumbers'. -/
def modelNumbersCard : Claim7 := { stood := { row := modelNumbersRow, standIns := [], harness := (true, "f3d55b1a7395e957f41b77a0c30891c927013555e17816de4d79c31519d462c2"), looks := false }, kinds := [], alts := [], laidByText := true, laidKinds := [.data, .data], laidTests := true, laidLooks := .later }
def ModelNumbersCardSaid : Prop := Claim7.holds Tryd.pinned (.plain (OpenSpec.ofChange modelNumbersSpec)) modelNumbersCard

/-- THE TIED CARD OF 'tesseralaw5.ModelRight'. -/
def modelRightCard : Claim7 := { stood := { row := modelRightRow, standIns := [], harness := (true, "f3d55b1a7395e957f41b77a0c30891c927013555e17816de4d79c31519d462c2"), looks := false }, kinds := [], alts := [], laidByText := true, laidKinds := [.data, .data], laidTests := true, laidLooks := .later }
def ModelRightCardSaid : Prop := Claim7.holds Tryd.pinned (.plain (OpenSpec.ofChange modelRightSpec)) modelRightCard

/-- THE TIED CARD OF 'tesseralaw5.ModelSays'. -/
def modelSaysCard : Claim7 := { stood := { row := modelSaysRow, standIns := [], harness := (true, "f3d55b1a7395e957f41b77a0c30891c927013555e17816de4d79c31519d462c2"), looks := false }, kinds := [], alts := [], laidByText := true, laidKinds := [.data, .data], laidTests := true, laidLooks := .later }
def ModelSaysCardSaid : Prop := Claim7.holds Tryd.pinned (.plain (OpenSpec.ofChange modelSaysSpec)) modelSaysCard

/-- THE TIED CARD OF 'tesseralaw5.ModelAll'. -/
def modelAllCard : Claim7 := { stood := { row := modelAllRow, standIns := [], harness := (true, "f3d55b1a7395e957f41b77a0c30891c927013555e17816de4d79c31519d462c2"), looks := false }, kinds := [], alts := [], laidByText := true, laidKinds := [.data, .data], laidTests := true, laidLooks := .later }
def ModelAllCardSaid : Prop := Claim7.holds Tryd.pinned (.plain (OpenSpec.ofChange modelAllSpec)) modelAllCard

/-- THE TIED CARD OF 'tesseralaw5.ModelNamed'. -/
def modelNamedCard : Claim7 := { stood := { row := modelNamedRow, standIns := [], harness := (true, "f3d55b1a7395e957f41b77a0c30891c927013555e17816de4d79c31519d462c2"), looks := false }, kinds := [], alts := [], laidByText := true, laidKinds := [.data, .data], laidTests := true, laidLooks := .later }
def ModelNamedCardSaid : Prop := Claim7.holds Tryd.pinned (.plain (OpenSpec.ofChange modelNamedSpec)) modelNamedCard

/-- THE TIED CARD OF 'tesseralaw5.ModelKept'. -/
def modelKeptCard : Claim7 := { stood := { row := modelKeptRow, standIns := [], harness := (true, "f3d55b1a7395e957f41b77a0c30891c927013555e17816de4d79c31519d462c2"), looks := false }, kinds := [], alts := [], laidByText := true, laidKinds := [.data, .data], laidTests := true, laidLooks := .later }
def ModelKeptCardSaid : Prop := Claim7.holds Tryd.pinned (.plain (OpenSpec.ofChange modelKeptSpec)) modelKeptCard

/-- THE SECOND FORM's CARD OF 'tesseralaw5.ModelNumbers'. -/
def modelNumbersUptoCard : Claim7 := { stood := { row := modelNumbersUptoRow, standIns := [], harness := (true, "f3d55b1a7395e957f41b77a0c30891c927013555e17816de4d79c31519d462c2"), looks := false }, kinds := [], alts := [], laidByText := true, laidKinds := [.data, .data], laidTests := true, laidLooks := .later }
def ModelNumbersUptoCardSaid : Prop := Claim7.holds Tryd.pinned (.plain (OpenSpec.upto modelNumbersSpec)) modelNumbersUptoCard

/-- THE SECOND FORM's CARD OF 'tesseralaw5.ModelRight'. -/
def modelRightUptoCard : Claim7 := { stood := { row := modelRightUptoRow, standIns := [], harness := (true, "f3d55b1a7395e957f41b77a0c30891c927013555e17816de4d79c31519d462c2"), looks := false }, kinds := [], alts := [], laidByText := true, laidKinds := [.data, .data], laidTests := true, laidLooks := .later }
def ModelRightUptoCardSaid : Prop := Claim7.holds Tryd.pinned (.plain (OpenSpec.upto modelRightSpec)) modelRightUptoCard

/-- THE SECOND FORM's CARD OF 'tesseralaw5.ModelSays'. -/
def modelSaysUptoCard : Claim7 := { stood := { row := modelSaysUptoRow, standIns := [], harness := (true, "f3d55b1a7395e957f41b77a0c30891c927013555e17816de4d79c31519d462c2"), looks := false }, kinds := [], alts := [], laidByText := true, laidKinds := [.data, .data], laidTests := true, laidLooks := .later }
def ModelSaysUptoCardSaid : Prop := Claim7.holds Tryd.pinned (.plain (OpenSpec.upto modelSaysSpec)) modelSaysUptoCard

/-- THE SECOND FORM's CARD OF 'tesseralaw5.ModelAll'. -/
def modelAllUptoCard : Claim7 := { stood := { row := modelAllUptoRow, standIns := [], harness := (true, "f3d55b1a7395e957f41b77a0c30891c927013555e17816de4d79c31519d462c2"), looks := false }, kinds := [], alts := [], laidByText := true, laidKinds := [.data, .data], laidTests := true, laidLooks := .later }
def ModelAllUptoCardSaid : Prop := Claim7.holds Tryd.pinned (.plain (OpenSpec.upto modelAllSpec)) modelAllUptoCard

/-- THE SECOND FORM's CARD OF 'tesseralaw5.ModelNamed'. -/
def modelNamedUptoCard : Claim7 := { stood := { row := modelNamedUptoRow, standIns := [], harness := (true, "f3d55b1a7395e957f41b77a0c30891c927013555e17816de4d79c31519d462c2"), looks := false }, kinds := [], alts := [], laidByText := true, laidKinds := [.data, .data], laidTests := true, laidLooks := .later }
def ModelNamedUptoCardSaid : Prop := Claim7.holds Tryd.pinned (.plain (OpenSpec.upto modelNamedSpec)) modelNamedUptoCard

/-- THE SECOND FORM's CARD OF 'tesseralaw5.ModelKept'. -/
def modelKeptUptoCard : Claim7 := { stood := { row := modelKeptUptoRow, standIns := [], harness := (true, "f3d55b1a7395e957f41b77a0c30891c927013555e17816de4d79c31519d462c2"), looks := false }, kinds := [], alts := [], laidByText := true, laidKinds := [.data, .data], laidTests := true, laidLooks := .later }
def ModelKeptUptoCardSaid : Prop := Claim7.holds Tryd.pinned (.plain (OpenSpec.upto modelKeptSpec)) modelKeptUptoCard
end Rows
end Go.Proofs.YtlnebbciefdpoaaDoor
