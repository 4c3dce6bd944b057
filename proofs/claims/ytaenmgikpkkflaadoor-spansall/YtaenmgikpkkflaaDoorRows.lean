/-
  NARROWER THAN 'FOR EVERY INPUT', by the rows' own cells (each row's printed sentence says how): SpansNumbers: laid · SpansRight: laid · SpansAsk: laid · SpansAll: laid · SpansMeets: laid.
  DERIVED. THE GIVEN ROWS OF THIS SEAT. 5 by the template 'for every input the law returns true; each argument reads behind the call as it read before'; 0 by the template 'total and deterministic' (their statements: YtaenmgikpkkflaaDoorTotals.lean).
  GIVEN WITH THE SEED: the statements are not yours to turn. If you find one false, say at which input.
  Laid BY PROGRAM, IN A SANDBOX (cutbox-rows.mjs): the forced cells as the released guide's own fill.sh prints them over the translation 116af0f0e51b2616… (all of the seat's roots in one cut). By AI agents, Wed Nov 11 2026. No macro, syntax, notation, axiom, sorry.
-/
import Derived.Test.YtaenmgikpkkflaaDoorChecked
import GoSem.Claim
import GoSem.ClaimJoined
import GoSem.ClaimMapViews
import Derived.JoinedTies
import Derived.KernelRfl
namespace Go.Proofs.YtaenmgikpkkflaaDoor
/- THE CELL 'sum', in the pinned program and in every row, IS THE sha256 OF THE DUMP (.gsa) THAT YtaenmgikpkkflaaDoorProg.lean LOADS. Nothing in Lean hashes anything: it is a label: what it is worth is what the hold of that sum in a sandbox is worth. -/
noncomputable def Tryd.pinned : Pinned := { name := "ytaenmgikpkkflaadoor", sum := "116af0f0e51b261602a98b2a1209b9d7661d15b6f55a4e175a3a698ae059c017", checked := Tryd.checked }
namespace Rows
def none {H : Type} : Left H := { results := [], args := [] }

/- WHAT THE LISTED PACKAGE-LEVEL VARIABLES READ AS WHEN THE CALL BEGINS. Each datum BY PROGRAM (the guide's laid-datum.mjs) off the statement by which the dump's own 'gosem.cut.vars' lays the variable. In a bare row this is a premise. The card (YtaenmgikpkkflaaDoorCards.lean) ties it to the program's text. -/
def laid_tessera_spans_runes {H : Type} : DataW H := .agg [.agg [.lit (.int .i32 0), .lit (.int .i32 55295)], .agg [.lit (.int .i32 57344), .lit (.int .i32 1114111)]]
def laid_tessera_spans_nothing {H : Type} : DataW H := .agg [.lit (.int .i32 0), .lit (.int .i32 (-1))]

/-- 'tesseralaw3.SpansNumbers': WHATEVER THE INPUT: true; the input reads as it did. -/
def spansNumbersSpec : ChangeSpec := { name := "spansNumbers", fn := fun _ => fun
  | [] => { results := [.lit (.bool true)], args := [] }
  | _ => none }
def spansNumbersRow : OpenClaim := { program := "ytaenmgikpkkflaadoor", sum := "116af0f0e51b261602a98b2a1209b9d7661d15b6f55a4e175a3a698ae059c017", func := "tessera/tesseralaw3.SpansNumbers", spec := "spansNumbers", named := ["tessera/spans.runes", "tessera/spans.nothing"], apart := false, laid := [("tessera/spans.runes", laid_tessera_spans_runes), ("tessera/spans.nothing", laid_tessera_spans_nothing)] }
def SpansNumbersSaid : Prop := spansNumbersRow.holds Tryd.pinned (OpenSpec.ofChange spansNumbersSpec)

/-- ITS FALSE NEIGHBOUR: 'it returns false'. Refute it at one input. -/
def spansNumbersWrong : ChangeSpec := { name := "spansNumbers", fn := fun _ => fun
  | [] => { results := [.lit (.bool false)], args := [] }
  | _ => none }
def SpansNumbersWrongFalsely : Prop := spansNumbersRow.holds Tryd.pinned (OpenSpec.ofChange spansNumbersWrong)

/-- 'tesseralaw3.SpansRight': WHATEVER THE INPUT: true; the input reads as it did. -/
def spansRightSpec : ChangeSpec := { name := "spansRight", fn := fun _ => fun
  | [d] => { results := [.lit (.bool true)], args := [d] }
  | _ => none }
def spansRightRow : OpenClaim := { program := "ytaenmgikpkkflaadoor", sum := "116af0f0e51b261602a98b2a1209b9d7661d15b6f55a4e175a3a698ae059c017", func := "tessera/tesseralaw3.SpansRight", spec := "spansRight", named := ["tessera/spans.runes", "tessera/spans.nothing"], apart := false, laid := [("tessera/spans.runes", laid_tessera_spans_runes), ("tessera/spans.nothing", laid_tessera_spans_nothing)] }
def SpansRightSaid : Prop := spansRightRow.holds Tryd.pinned (OpenSpec.ofChange spansRightSpec)

/-- ITS FALSE NEIGHBOUR: 'it returns false'. Refute it at one input. -/
def spansRightWrong : ChangeSpec := { name := "spansRight", fn := fun _ => fun
  | [d] => { results := [.lit (.bool false)], args := [d] }
  | _ => none }
def SpansRightWrongFalsely : Prop := spansRightRow.holds Tryd.pinned (OpenSpec.ofChange spansRightWrong)

/-- 'tesseralaw3.SpansAsk': WHATEVER THE INPUT: true; the input reads as it did. -/
def spansAskSpec : ChangeSpec := { name := "spansAsk", fn := fun _ => fun
  | [d1, d2, d3] => { results := [.lit (.bool true)], args := [d1, d2, d3] }
  | _ => none }
def spansAskRow : OpenClaim := { program := "ytaenmgikpkkflaadoor", sum := "116af0f0e51b261602a98b2a1209b9d7661d15b6f55a4e175a3a698ae059c017", func := "tessera/tesseralaw3.SpansAsk", spec := "spansAsk", named := ["tessera/spans.runes", "tessera/spans.nothing"], apart := false, laid := [("tessera/spans.runes", laid_tessera_spans_runes), ("tessera/spans.nothing", laid_tessera_spans_nothing)] }
def SpansAskSaid : Prop := spansAskRow.holds Tryd.pinned (OpenSpec.ofChange spansAskSpec)

/-- ITS FALSE NEIGHBOUR: 'it returns false'. Refute it at one input. -/
def spansAskWrong : ChangeSpec := { name := "spansAsk", fn := fun _ => fun
  | [d1, d2, d3] => { results := [.lit (.bool false)], args := [d1, d2, d3] }
  | _ => none }
def SpansAskWrongFalsely : Prop := spansAskRow.holds Tryd.pinned (OpenSpec.ofChange spansAskWrong)

/-- 'tesseralaw3.SpansAll': WHATEVER THE INPUT: true; the input reads as it did. -/
def spansAllSpec : ChangeSpec := { name := "spansAll", fn := fun _ => fun
  | [d1, d2] => { results := [.lit (.bool true)], args := [d1, d2] }
  | _ => none }
def spansAllRow : OpenClaim := { program := "ytaenmgikpkkflaadoor", sum := "116af0f0e51b261602a98b2a1209b9d7661d15b6f55a4e175a3a698ae059c017", func := "tessera/tesseralaw3.SpansAll", spec := "spansAll", unfollowed := true, recurses := true, named := ["tessera/spans.runes", "tessera/spans.nothing"], apart := false, laid := [("tessera/spans.runes", laid_tessera_spans_runes), ("tessera/spans.nothing", laid_tessera_spans_nothing)] }
def SpansAllSaid : Prop := spansAllRow.holds Tryd.pinned (OpenSpec.ofChange spansAllSpec)

/-- ITS FALSE NEIGHBOUR: 'it returns false'. Refute it at one input. -/
def spansAllWrong : ChangeSpec := { name := "spansAll", fn := fun _ => fun
  | [d1, d2] => { results := [.lit (.bool false)], args := [d1, d2] }
  | _ => none }
def SpansAllWrongFalsely : Prop := spansAllRow.holds Tryd.pinned (OpenSpec.ofChange spansAllWrong)

/-- 'tesseralaw3.SpansMeets': WHATEVER THE INPUT: true; the input reads as it did. -/
def spansMeetsSpec : ChangeSpec := { name := "spansMeets", fn := fun _ => fun
  | [d1, d2, d3] => { results := [.lit (.bool true)], args := [d1, d2, d3] }
  | _ => none }
def spansMeetsRow : OpenClaim := { program := "ytaenmgikpkkflaadoor", sum := "116af0f0e51b261602a98b2a1209b9d7661d15b6f55a4e175a3a698ae059c017", func := "tessera/tesseralaw3.SpansMeets", spec := "spansMeets", named := ["tessera/spans.runes", "tessera/spans.nothing"], apart := false, laid := [("tessera/spans.runes", laid_tessera_spans_runes), ("tessera/spans.nothing", laid_tessera_spans_nothing)] }
def SpansMeetsSaid : Prop := spansMeetsRow.holds Tryd.pinned (OpenSpec.ofChange spansMeetsSpec)

/-- ITS FALSE NEIGHBOUR: 'it returns false'. Refute it at one input. -/
def spansMeetsWrong : ChangeSpec := { name := "spansMeets", fn := fun _ => fun
  | [d1, d2, d3] => { results := [.lit (.bool false)], args := [d1, d2, d3] }
  | _ => none }
def SpansMeetsWrongFalsely : Prop := spansMeetsRow.holds Tryd.pinned (OpenSpec.ofChange spansMeetsWrong)

/- THE SECOND FORM. 'bulk': how many values and letters a reading holds, each counted each time it is reached (what is shared counts as often as it is met; a slice's spare places count too). A statement '..UptoSaid' is the law's where the arguments, and the package variables that the reading takes, are together of bulk at most 1048576: NARROWER than '..Said'. Prove '..Said' where nothing that the law and all that it calls make is longer than what came in: it says more and counts as full. Else prove '..UptoSaid'. A law counts once. -/
mutual
def uptoBulk {H : Type} : DataW H → Nat
  | .lit (.string bytes) => bytes.length + 1
  | .lit _ => 1
  | .nil => 1
  | .ptr d => uptoBulk d + 1
  | .slice elems spare => uptoBulkAll elems + uptoBulkAll spare + 1
  | .agg parts => uptoBulkAll parts + 1
  | .iface _ d => uptoBulk d + 1
  | .map entries => uptoBulkEntries entries + 1
  | .held _ => 1
def uptoBulkAll {H : Type} : List (DataW H) → Nat
  | [] => 0
  | d :: r => uptoBulk d + uptoBulkAll r
def uptoBulkEntries {H : Type} : List (Lit × DataW H) → Nat
  | [] => 0
  | x :: r => uptoBulkEntry x + uptoBulkEntries r
def uptoBulkEntry {H : Type} : Lit × DataW H → Nat
  | (.string bytes, d) => bytes.length + uptoBulk d + 1
  | (_, d) => uptoBulk d + 1
 end
def uptoSmall : (H : Type) → List (DataW H) → Bool := fun _ ds => decide (uptoBulkAll ds ≤ 1048576)
def OpenSpec.upto (s : _root_.Go.ChangeSpec) : _root_.Go.OpenSpec := { _root_.Go.OpenSpec.ofChange s with cond := some uptoSmall }

/-- 'tesseralaw3.SpansNumbers', WHERE WHAT IT READS IS OF BULK AT MOST 1048576: true; the input reads as it did. -/
def spansNumbersUptoRow : OpenClaim := { program := "ytaenmgikpkkflaadoor", sum := "116af0f0e51b261602a98b2a1209b9d7661d15b6f55a4e175a3a698ae059c017", func := "tessera/tesseralaw3.SpansNumbers", spec := "spansNumbers", named := ["tessera/spans.runes", "tessera/spans.nothing"], apart := false, laid := [("tessera/spans.runes", laid_tessera_spans_runes), ("tessera/spans.nothing", laid_tessera_spans_nothing)], narrowed := true }
def SpansNumbersUptoSaid : Prop := spansNumbersUptoRow.holds Tryd.pinned (OpenSpec.upto spansNumbersSpec)

/-- 'tesseralaw3.SpansRight', WHERE WHAT IT READS IS OF BULK AT MOST 1048576: true; the input reads as it did. -/
def spansRightUptoRow : OpenClaim := { program := "ytaenmgikpkkflaadoor", sum := "116af0f0e51b261602a98b2a1209b9d7661d15b6f55a4e175a3a698ae059c017", func := "tessera/tesseralaw3.SpansRight", spec := "spansRight", named := ["tessera/spans.runes", "tessera/spans.nothing"], apart := false, laid := [("tessera/spans.runes", laid_tessera_spans_runes), ("tessera/spans.nothing", laid_tessera_spans_nothing)], narrowed := true }
def SpansRightUptoSaid : Prop := spansRightUptoRow.holds Tryd.pinned (OpenSpec.upto spansRightSpec)

/-- 'tesseralaw3.SpansAsk', WHERE WHAT IT READS IS OF BULK AT MOST 1048576: true; the input reads as it did. -/
def spansAskUptoRow : OpenClaim := { program := "ytaenmgikpkkflaadoor", sum := "116af0f0e51b261602a98b2a1209b9d7661d15b6f55a4e175a3a698ae059c017", func := "tessera/tesseralaw3.SpansAsk", spec := "spansAsk", named := ["tessera/spans.runes", "tessera/spans.nothing"], apart := false, laid := [("tessera/spans.runes", laid_tessera_spans_runes), ("tessera/spans.nothing", laid_tessera_spans_nothing)], narrowed := true }
def SpansAskUptoSaid : Prop := spansAskUptoRow.holds Tryd.pinned (OpenSpec.upto spansAskSpec)

/-- 'tesseralaw3.SpansAll', WHERE WHAT IT READS IS OF BULK AT MOST 1048576: true; the input reads as it did. -/
def spansAllUptoRow : OpenClaim := { program := "ytaenmgikpkkflaadoor", sum := "116af0f0e51b261602a98b2a1209b9d7661d15b6f55a4e175a3a698ae059c017", func := "tessera/tesseralaw3.SpansAll", spec := "spansAll", unfollowed := true, recurses := true, named := ["tessera/spans.runes", "tessera/spans.nothing"], apart := false, laid := [("tessera/spans.runes", laid_tessera_spans_runes), ("tessera/spans.nothing", laid_tessera_spans_nothing)], narrowed := true }
def SpansAllUptoSaid : Prop := spansAllUptoRow.holds Tryd.pinned (OpenSpec.upto spansAllSpec)

/-- 'tesseralaw3.SpansMeets', WHERE WHAT IT READS IS OF BULK AT MOST 1048576: true; the input reads as it did. -/
def spansMeetsUptoRow : OpenClaim := { program := "ytaenmgikpkkflaadoor", sum := "116af0f0e51b261602a98b2a1209b9d7661d15b6f55a4e175a3a698ae059c017", func := "tessera/tesseralaw3.SpansMeets", spec := "spansMeets", named := ["tessera/spans.runes", "tessera/spans.nothing"], apart := false, laid := [("tessera/spans.runes", laid_tessera_spans_runes), ("tessera/spans.nothing", laid_tessera_spans_nothing)], narrowed := true }
def SpansMeetsUptoSaid : Prop := spansMeetsUptoRow.holds Tryd.pinned (OpenSpec.upto spansMeetsSpec)

end Rows
end Go.Proofs.YtaenmgikpkkflaaDoor
