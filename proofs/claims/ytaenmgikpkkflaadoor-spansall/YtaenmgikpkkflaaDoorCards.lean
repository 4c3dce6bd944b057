/-
  DERIVED. GIVEN WITH THE SEED: THE CARDS: each row of YtaenmgikpkkflaaDoorRows.lean that lists a variable, with what it lists TIED to the program's text (the seventh form; the later family's looks); each row that meets fmt, with fmt's text TOLD by the authors' own Lean function (tested against real Go, not proved from fmt's source: count such statements apart). THE CARD IS WHAT COUNTS. Prove the row's statement (the work); the ties are given (YtaenmgikpkkflaaDoorTie.lean); close each card by the builder's one call (the guide's Derived/Test/ToyasCard.lean, 'card_holds'). Laid BY PROGRAM, IN A SANDBOX (cutbox-door.mjs). By AI agents, Wed Nov 11 2026. No macro, syntax, notation, axiom, sorry.
-/
import Derived.Test.YtaenmgikpkkflaaDoorRows
import GoSem.ClaimSeven
namespace Go.Proofs.YtaenmgikpkkflaaDoor
namespace Rows

/-- THE TIED CARD OF 'tesseralaw3.SpansNumbers'. -/
def spansNumbersCard : Claim7 := { stood := { row := spansNumbersRow, standIns := [], harness := (true, "1ed04b9e197a4e8198af6456a53c64430714301dde1279b306d033f57b6e1c98"), looks := false }, kinds := [], alts := [], laidByText := true, laidKinds := [.data, .data], laidTests := true, laidLooks := .later }
def SpansNumbersCardSaid : Prop := Claim7.holds Tryd.pinned (.plain (OpenSpec.ofChange spansNumbersSpec)) spansNumbersCard

/-- THE TIED CARD OF 'tesseralaw3.SpansRight'. -/
def spansRightCard : Claim7 := { stood := { row := spansRightRow, standIns := [], harness := (true, "1ed04b9e197a4e8198af6456a53c64430714301dde1279b306d033f57b6e1c98"), looks := false }, kinds := [], alts := [], laidByText := true, laidKinds := [.data, .data], laidTests := true, laidLooks := .later }
def SpansRightCardSaid : Prop := Claim7.holds Tryd.pinned (.plain (OpenSpec.ofChange spansRightSpec)) spansRightCard

/-- THE TIED CARD OF 'tesseralaw3.SpansAsk'. -/
def spansAskCard : Claim7 := { stood := { row := spansAskRow, standIns := [], harness := (true, "1ed04b9e197a4e8198af6456a53c64430714301dde1279b306d033f57b6e1c98"), looks := false }, kinds := [], alts := [], laidByText := true, laidKinds := [.data, .data], laidTests := true, laidLooks := .later }
def SpansAskCardSaid : Prop := Claim7.holds Tryd.pinned (.plain (OpenSpec.ofChange spansAskSpec)) spansAskCard

/-- THE TIED CARD OF 'tesseralaw3.SpansAll'. -/
def spansAllCard : Claim7 := { stood := { row := spansAllRow, standIns := [], harness := (true, "1ed04b9e197a4e8198af6456a53c64430714301dde1279b306d033f57b6e1c98"), looks := false }, kinds := [], alts := [], laidByText := true, laidKinds := [.data, .data], laidTests := true, laidLooks := .later }
def SpansAllCardSaid : Prop := Claim7.holds Tryd.pinned (.plain (OpenSpec.ofChange spansAllSpec)) spansAllCard

/-- THE TIED CARD OF 'tesseralaw3.SpansMeets'. -/
def spansMeetsCard : Claim7 := { stood := { row := spansMeetsRow, standIns := [], harness := (true, "1ed04b9e197a4e8198af6456a53c64430714301dde1279b306d033f57b6e1c98"), looks := false }, kinds := [], alts := [], laidByText := true, laidKinds := [.data, .data], laidTests := true, laidLooks := .later }
def SpansMeetsCardSaid : Prop := Claim7.holds Tryd.pinned (.plain (OpenSpec.ofChange spansMeetsSpec)) spansMeetsCard

/-- THE SECOND FORM's CARD OF 'tesseralaw3.SpansNumbers'. -/
def spansNumbersUptoCard : Claim7 := { stood := { row := spansNumbersUptoRow, standIns := [], harness := (true, "1ed04b9e197a4e8198af6456a53c64430714301dde1279b306d033f57b6e1c98"), looks := false }, kinds := [], alts := [], laidByText := true, laidKinds := [.data, .data], laidTests := true, laidLooks := .later }
def SpansNumbersUptoCardSaid : Prop := Claim7.holds Tryd.pinned (.plain (OpenSpec.upto spansNumbersSpec)) spansNumbersUptoCard

/-- THE SECOND FORM's CARD OF 'tesseralaw3.SpansRight'. -/
def spansRightUptoCard : Claim7 := { stood := { row := spansRightUptoRow, standIns := [], harness := (true, "1ed04b9e197a4e8198af6456a53c64430714301dde1279b306d033f57b6e1c98"), looks := false }, kinds := [], alts := [], laidByText := true, laidKinds := [.data, .data], laidTests := true, laidLooks := .later }
def SpansRightUptoCardSaid : Prop := Claim7.holds Tryd.pinned (.plain (OpenSpec.upto spansRightSpec)) spansRightUptoCard

/-- THE SECOND FORM's CARD OF 'tesseralaw3.SpansAsk'. -/
def spansAskUptoCard : Claim7 := { stood := { row := spansAskUptoRow, standIns := [], harness := (true, "1ed04b9e197a4e8198af6456a53c64430714301dde1279b306d033f57b6e1c98"), looks := false }, kinds := [], alts := [], laidByText := true, laidKinds := [.data, .data], laidTests := true, laidLooks := .later }
def SpansAskUptoCardSaid : Prop := Claim7.holds Tryd.pinned (.plain (OpenSpec.upto spansAskSpec)) spansAskUptoCard

/-- THE SECOND FORM's CARD OF 'tesseralaw3.SpansAll'. -/
def spansAllUptoCard : Claim7 := { stood := { row := spansAllUptoRow, standIns := [], harness := (true, "1ed04b9e197a4e8198af6456a53c64430714301dde1279b306d033f57b6e1c98"), looks := false }, kinds := [], alts := [], laidByText := true, laidKinds := [.data, .data], laidTests := true, laidLooks := .later }
def SpansAllUptoCardSaid : Prop := Claim7.holds Tryd.pinned (.plain (OpenSpec.upto spansAllSpec)) spansAllUptoCard

/-- THE SECOND FORM's CARD OF 'tesseralaw3.SpansMeets'. -/
def spansMeetsUptoCard : Claim7 := { stood := { row := spansMeetsUptoRow, standIns := [], harness := (true, "1ed04b9e197a4e8198af6456a53c64430714301dde1279b306d033f57b6e1c98"), looks := false }, kinds := [], alts := [], laidByText := true, laidKinds := [.data, .data], laidTests := true, laidLooks := .later }
def SpansMeetsUptoCardSaid : Prop := Claim7.holds Tryd.pinned (.plain (OpenSpec.upto spansMeetsSpec)) spansMeetsUptoCard
end Rows
end Go.Proofs.YtaenmgikpkkflaaDoor
