/-
  DERIVED. GIVEN WITH THE SEED: THE CARDS: each row of YtddeamecgbdajaaDoorRows.lean that lists a variable, with what it lists TIED to the program's text (the seventh form; the later family's looks); each row that meets fmt, with fmt's text TOLD by the authors' own Lean function (tested against real Go, not proved from fmt's source: count such statements apart). THE CARD IS WHAT COUNTS. Prove the row's statement (the work); the ties are given (YtddeamecgbdajaaDoorTie.lean); close each card by the builder's one call (the guide's Derived/Test/ToyasCard.lean, 'card_holds'). Laid BY PROGRAM, IN A SANDBOX (cutbox-door.mjs). By AI agents, Wed Nov 11 2026. No macro, syntax, notation, axiom, sorry.
-/
import Derived.Test.YtddeamecgbdajaaDoorRows
import GoSem.ClaimSeven
namespace Go.Proofs.YtddeamecgbdajaaDoor
namespace Rows

/-- THE TIED CARD OF 'tesseralaw4.ClassesNumbers'. -/
def classesNumbersCard : Claim7 := { stood := { row := classesNumbersRow, standIns := [], harness := (true, "90cefde40ae6df1d7f82cd32dd90a306585257f87744d9095991336265671e45"), looks := false }, kinds := [], alts := [], laidByText := true, laidKinds := [.data, .data], laidTests := true, laidLooks := .later }
def ClassesNumbersCardSaid : Prop := Claim7.holds Tryd.pinned (.plain (OpenSpec.ofChange classesNumbersSpec)) classesNumbersCard

/-- THE TIED CARD OF 'tesseralaw4.ClassesRight'. -/
def classesRightCard : Claim7 := { stood := { row := classesRightRow, standIns := [], harness := (true, "90cefde40ae6df1d7f82cd32dd90a306585257f87744d9095991336265671e45"), looks := false }, kinds := [], alts := [], laidByText := true, laidKinds := [.data, .data], laidTests := true, laidLooks := .later }
def ClassesRightCardSaid : Prop := Claim7.holds Tryd.pinned (.plain (OpenSpec.ofChange classesRightSpec)) classesRightCard

/-- THE TIED CARD OF 'tesseralaw4.ClassesKinds'. -/
def classesKindsCard : Claim7 := { stood := { row := classesKindsRow, standIns := [], harness := (true, "90cefde40ae6df1d7f82cd32dd90a306585257f87744d9095991336265671e45"), looks := false }, kinds := [], alts := [], laidByText := true, laidKinds := [.data, .data], laidTests := true, laidLooks := .later }
def ClassesKindsCardSaid : Prop := Claim7.holds Tryd.pinned (.plain (OpenSpec.ofChange classesKindsSpec)) classesKindsCard

/-- THE TIED CARD OF 'tesseralaw4.ClassesRuns'. -/
def classesRunsCard : Claim7 := { stood := { row := classesRunsRow, standIns := [], harness := (true, "90cefde40ae6df1d7f82cd32dd90a306585257f87744d9095991336265671e45"), looks := false }, kinds := [], alts := [], laidByText := true, laidKinds := [.data, .data], laidTests := true, laidLooks := .later }
def ClassesRunsCardSaid : Prop := Claim7.holds Tryd.pinned (.plain (OpenSpec.ofChange classesRunsSpec)) classesRunsCard

/-- THE TIED CARD OF 'tesseralaw4.ClassesWhole'. -/
def classesWholeCard : Claim7 := { stood := { row := classesWholeRow, standIns := [], harness := (true, "90cefde40ae6df1d7f82cd32dd90a306585257f87744d9095991336265671e45"), looks := false }, kinds := [], alts := [], laidByText := true, laidKinds := [.data, .data], laidTests := true, laidLooks := .later }
def ClassesWholeCardSaid : Prop := Claim7.holds Tryd.pinned (.plain (OpenSpec.ofChange classesWholeSpec)) classesWholeCard

/-- THE TIED CARD OF 'tesseralaw4.ClassesKept'. -/
def classesKeptCard : Claim7 := { stood := { row := classesKeptRow, standIns := [], harness := (true, "90cefde40ae6df1d7f82cd32dd90a306585257f87744d9095991336265671e45"), looks := false }, kinds := [], alts := [], laidByText := true, laidKinds := [.data, .data], laidTests := true, laidLooks := .later }
def ClassesKeptCardSaid : Prop := Claim7.holds Tryd.pinned (.plain (OpenSpec.ofChange classesKeptSpec)) classesKeptCard

/-- THE SECOND FORM's CARD OF 'tesseralaw4.ClassesNumbers'. -/
def classesNumbersUptoCard : Claim7 := { stood := { row := classesNumbersUptoRow, standIns := [], harness := (true, "90cefde40ae6df1d7f82cd32dd90a306585257f87744d9095991336265671e45"), looks := false }, kinds := [], alts := [], laidByText := true, laidKinds := [.data, .data], laidTests := true, laidLooks := .later }
def ClassesNumbersUptoCardSaid : Prop := Claim7.holds Tryd.pinned (.plain (OpenSpec.upto classesNumbersSpec)) classesNumbersUptoCard

/-- THE SECOND FORM's CARD OF 'tesseralaw4.ClassesRight'. -/
def classesRightUptoCard : Claim7 := { stood := { row := classesRightUptoRow, standIns := [], harness := (true, "90cefde40ae6df1d7f82cd32dd90a306585257f87744d9095991336265671e45"), looks := false }, kinds := [], alts := [], laidByText := true, laidKinds := [.data, .data], laidTests := true, laidLooks := .later }
def ClassesRightUptoCardSaid : Prop := Claim7.holds Tryd.pinned (.plain (OpenSpec.upto classesRightSpec)) classesRightUptoCard

/-- THE SECOND FORM's CARD OF 'tesseralaw4.ClassesKinds'. -/
def classesKindsUptoCard : Claim7 := { stood := { row := classesKindsUptoRow, standIns := [], harness := (true, "90cefde40ae6df1d7f82cd32dd90a306585257f87744d9095991336265671e45"), looks := false }, kinds := [], alts := [], laidByText := true, laidKinds := [.data, .data], laidTests := true, laidLooks := .later }
def ClassesKindsUptoCardSaid : Prop := Claim7.holds Tryd.pinned (.plain (OpenSpec.upto classesKindsSpec)) classesKindsUptoCard

/-- THE SECOND FORM's CARD OF 'tesseralaw4.ClassesRuns'. -/
def classesRunsUptoCard : Claim7 := { stood := { row := classesRunsUptoRow, standIns := [], harness := (true, "90cefde40ae6df1d7f82cd32dd90a306585257f87744d9095991336265671e45"), looks := false }, kinds := [], alts := [], laidByText := true, laidKinds := [.data, .data], laidTests := true, laidLooks := .later }
def ClassesRunsUptoCardSaid : Prop := Claim7.holds Tryd.pinned (.plain (OpenSpec.upto classesRunsSpec)) classesRunsUptoCard

/-- THE SECOND FORM's CARD OF 'tesseralaw4.ClassesWhole'. -/
def classesWholeUptoCard : Claim7 := { stood := { row := classesWholeUptoRow, standIns := [], harness := (true, "90cefde40ae6df1d7f82cd32dd90a306585257f87744d9095991336265671e45"), looks := false }, kinds := [], alts := [], laidByText := true, laidKinds := [.data, .data], laidTests := true, laidLooks := .later }
def ClassesWholeUptoCardSaid : Prop := Claim7.holds Tryd.pinned (.plain (OpenSpec.upto classesWholeSpec)) classesWholeUptoCard

/-- THE SECOND FORM's CARD OF 'tesseralaw4.ClassesKept'. -/
def classesKeptUptoCard : Claim7 := { stood := { row := classesKeptUptoRow, standIns := [], harness := (true, "90cefde40ae6df1d7f82cd32dd90a306585257f87744d9095991336265671e45"), looks := false }, kinds := [], alts := [], laidByText := true, laidKinds := [.data, .data], laidTests := true, laidLooks := .later }
def ClassesKeptUptoCardSaid : Prop := Claim7.holds Tryd.pinned (.plain (OpenSpec.upto classesKeptSpec)) classesKeptUptoCard
end Rows
end Go.Proofs.YtddeamecgbdajaaDoor
