/-
  DERIVED. GIVEN WITH THE SEED: THE CARDS: each row of YtjbdhakogbolkaaDoorRows.lean that lists a variable, with what it lists TIED to the program's text (the seventh form; the later family's looks); each row that meets fmt, with fmt's text TOLD by the authors' own Lean function (tested against real Go, not proved from fmt's source: count such statements apart). THE CARD IS WHAT COUNTS. Prove the row's statement (the work); the ties are given (YtjbdhakogbolkaaDoorTie.lean); close each card by the builder's one call (the guide's Derived/Test/ToyasCard.lean, 'card_holds'). Laid BY PROGRAM, IN A SANDBOX (cutbox-door.mjs). By AI agents, Wed Nov 11 2026. No macro, syntax, notation, axiom, sorry.
-/
import Derived.Test.YtjbdhakogbolkaaDoorRows
import GoSem.ClaimSeven
namespace Go.Proofs.YtjbdhakogbolkaaDoor
namespace Rows

/-- THE TIED CARD OF 'tesseralaw10.BpeNumbers'. -/
def bpeNumbersCard : Claim7 := { stood := { row := bpeNumbersRow, standIns := [], harness := (true, "02a79a489d35aa6d7737abcdce534765fb356c3924ee0321d7df7b2503a48390"), looks := false }, kinds := [], alts := [], laidByText := true, laidKinds := [.data, .data], laidTests := true, laidLooks := .later }
def BpeNumbersCardSaid : Prop := Claim7.holds Tryd.pinned (.plain (OpenSpec.ofChange bpeNumbersSpec)) bpeNumbersCard

/-- THE TIED CARD OF 'tesseralaw10.BpeMerges'. -/
def bpeMergesCard : Claim7 := { stood := { row := bpeMergesRow, standIns := [], harness := (true, "02a79a489d35aa6d7737abcdce534765fb356c3924ee0321d7df7b2503a48390"), looks := false }, kinds := [], alts := [], laidByText := true, laidKinds := [.data, .data], laidTests := true, laidLooks := .later }
def BpeMergesCardSaid : Prop := Claim7.holds Tryd.pinned (.plain (OpenSpec.ofChange bpeMergesSpec)) bpeMergesCard

/-- THE TIED CARD OF 'tesseralaw10.BpeJoins'. -/
def bpeJoinsCard : Claim7 := { stood := { row := bpeJoinsRow, standIns := [], harness := (true, "02a79a489d35aa6d7737abcdce534765fb356c3924ee0321d7df7b2503a48390"), looks := false }, kinds := [], alts := [], laidByText := true, laidKinds := [.data, .data], laidTests := true, laidLooks := .later }
def BpeJoinsCardSaid : Prop := Claim7.holds Tryd.pinned (.plain (OpenSpec.ofChange bpeJoinsSpec)) bpeJoinsCard

/-- THE TIED CARD OF 'tesseralaw10.BpeEnds'. -/
def bpeEndsCard : Claim7 := { stood := { row := bpeEndsRow, standIns := [], harness := (true, "02a79a489d35aa6d7737abcdce534765fb356c3924ee0321d7df7b2503a48390"), looks := false }, kinds := [], alts := [], laidByText := true, laidKinds := [.data, .data], laidTests := true, laidLooks := .later }
def BpeEndsCardSaid : Prop := Claim7.holds Tryd.pinned (.plain (OpenSpec.ofChange bpeEndsSpec)) bpeEndsCard

/-- THE TIED CARD OF 'tesseralaw10.BpeSteps'. -/
def bpeStepsCard : Claim7 := { stood := { row := bpeStepsRow, standIns := [], harness := (true, "02a79a489d35aa6d7737abcdce534765fb356c3924ee0321d7df7b2503a48390"), looks := false }, kinds := [], alts := [], laidByText := true, laidKinds := [.data, .data], laidTests := true, laidLooks := .later }
def BpeStepsCardSaid : Prop := Claim7.holds Tryd.pinned (.plain (OpenSpec.ofChange bpeStepsSpec)) bpeStepsCard

/-- THE TIED CARD OF 'tesseralaw10.BpeCuts'. -/
def bpeCutsCard : Claim7 := { stood := { row := bpeCutsRow, standIns := [], harness := (true, "02a79a489d35aa6d7737abcdce534765fb356c3924ee0321d7df7b2503a48390"), looks := false }, kinds := [], alts := [], laidByText := true, laidKinds := [.data, .data], laidTests := true, laidLooks := .later }
def BpeCutsCardSaid : Prop := Claim7.holds Tryd.pinned (.plain (OpenSpec.ofChange bpeCutsSpec)) bpeCutsCard

/-- THE SECOND FORM's CARD OF 'tesseralaw10.BpeNumbers'. -/
def bpeNumbersUptoCard : Claim7 := { stood := { row := bpeNumbersUptoRow, standIns := [], harness := (true, "02a79a489d35aa6d7737abcdce534765fb356c3924ee0321d7df7b2503a48390"), looks := false }, kinds := [], alts := [], laidByText := true, laidKinds := [.data, .data], laidTests := true, laidLooks := .later }
def BpeNumbersUptoCardSaid : Prop := Claim7.holds Tryd.pinned (.plain (OpenSpec.upto bpeNumbersSpec)) bpeNumbersUptoCard

/-- THE SECOND FORM's CARD OF 'tesseralaw10.BpeMerges'. -/
def bpeMergesUptoCard : Claim7 := { stood := { row := bpeMergesUptoRow, standIns := [], harness := (true, "02a79a489d35aa6d7737abcdce534765fb356c3924ee0321d7df7b2503a48390"), looks := false }, kinds := [], alts := [], laidByText := true, laidKinds := [.data, .data], laidTests := true, laidLooks := .later }
def BpeMergesUptoCardSaid : Prop := Claim7.holds Tryd.pinned (.plain (OpenSpec.upto bpeMergesSpec)) bpeMergesUptoCard

/-- THE SECOND FORM's CARD OF 'tesseralaw10.BpeJoins'. -/
def bpeJoinsUptoCard : Claim7 := { stood := { row := bpeJoinsUptoRow, standIns := [], harness := (true, "02a79a489d35aa6d7737abcdce534765fb356c3924ee0321d7df7b2503a48390"), looks := false }, kinds := [], alts := [], laidByText := true, laidKinds := [.data, .data], laidTests := true, laidLooks := .later }
def BpeJoinsUptoCardSaid : Prop := Claim7.holds Tryd.pinned (.plain (OpenSpec.upto bpeJoinsSpec)) bpeJoinsUptoCard

/-- THE SECOND FORM's CARD OF 'tesseralaw10.BpeEnds'. -/
def bpeEndsUptoCard : Claim7 := { stood := { row := bpeEndsUptoRow, standIns := [], harness := (true, "02a79a489d35aa6d7737abcdce534765fb356c3924ee0321d7df7b2503a48390"), looks := false }, kinds := [], alts := [], laidByText := true, laidKinds := [.data, .data], laidTests := true, laidLooks := .later }
def BpeEndsUptoCardSaid : Prop := Claim7.holds Tryd.pinned (.plain (OpenSpec.upto bpeEndsSpec)) bpeEndsUptoCard

/-- THE SECOND FORM's CARD OF 'tesseralaw10.BpeSteps'. -/
def bpeStepsUptoCard : Claim7 := { stood := { row := bpeStepsUptoRow, standIns := [], harness := (true, "02a79a489d35aa6d7737abcdce534765fb356c3924ee0321d7df7b2503a48390"), looks := false }, kinds := [], alts := [], laidByText := true, laidKinds := [.data, .data], laidTests := true, laidLooks := .later }
def BpeStepsUptoCardSaid : Prop := Claim7.holds Tryd.pinned (.plain (OpenSpec.upto bpeStepsSpec)) bpeStepsUptoCard

/-- THE SECOND FORM's CARD OF 'tesseralaw10.BpeCuts'. -/
def bpeCutsUptoCard : Claim7 := { stood := { row := bpeCutsUptoRow, standIns := [], harness := (true, "02a79a489d35aa6d7737abcdce534765fb356c3924ee0321d7df7b2503a48390"), looks := false }, kinds := [], alts := [], laidByText := true, laidKinds := [.data, .data], laidTests := true, laidLooks := .later }
def BpeCutsUptoCardSaid : Prop := Claim7.holds Tryd.pinned (.plain (OpenSpec.upto bpeCutsSpec)) bpeCutsUptoCard
end Rows
end Go.Proofs.YtjbdhakogbolkaaDoor
