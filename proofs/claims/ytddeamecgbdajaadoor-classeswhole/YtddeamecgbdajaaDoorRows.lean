/-
  NARROWER THAN 'FOR EVERY INPUT', by the rows' own cells (each row's printed sentence says how): ClassesNumbers: laid · ClassesRight: laid · ClassesKinds: laid · ClassesRuns: laid · ClassesWhole: laid · ClassesKept: laid.
  DERIVED. THE GIVEN ROWS OF THIS SEAT. 6 by the template 'for every input the law returns true; each argument reads behind the call as it read before'; 0 by the template 'total and deterministic' (their statements: YtddeamecgbdajaaDoorTotals.lean).
  GIVEN WITH THE SEED: the statements are not yours to turn. If you find one false, say at which input.
  Laid BY PROGRAM, IN A SANDBOX (cutbox-rows.mjs): the forced cells as the released guide's own fill.sh prints them over the translation a56aa1ef92a139f7… (all of the seat's roots in one cut). By AI agents, Wed Nov 11 2026. No macro, syntax, notation, axiom, sorry.
-/
import Derived.Test.YtddeamecgbdajaaDoorChecked
import GoSem.Claim
import GoSem.ClaimJoined
import GoSem.ClaimMapViews
import Derived.JoinedTies
import Derived.KernelRfl
namespace Go.Proofs.YtddeamecgbdajaaDoor
/- THE CELL 'sum', in the pinned program and in every row, IS THE sha256 OF THE DUMP (.gsa) THAT YtddeamecgbdajaaDoorProg.lean LOADS. Nothing in Lean hashes anything: it is a label: what it is worth is what the hold of that sum in a sandbox is worth. -/
noncomputable def Tryd.pinned : Pinned := { name := "ytddeamecgbdajaadoor", sum := "a56aa1ef92a139f70b5580709b48aaf3da1a3151060c995e4bb26778d80b4a06", checked := Tryd.checked }
namespace Rows
def none {H : Type} : Left H := { results := [], args := [] }

/- WHAT THE LISTED PACKAGE-LEVEL VARIABLES READ AS WHEN THE CALL BEGINS. Each datum BY PROGRAM (the guide's laid-datum.mjs) off the statement by which the dump's own 'gosem.cut.vars' lays the variable. In a bare row this is a premise. The card (YtddeamecgbdajaaDoorCards.lean) ties it to the program's text. -/
def laid_tessera_spans_runes {H : Type} : DataW H := .agg [.agg [.lit (.int .i32 0), .lit (.int .i32 55295)], .agg [.lit (.int .i32 57344), .lit (.int .i32 1114111)]]
def laid_tessera_spans_nothing {H : Type} : DataW H := .agg [.lit (.int .i32 0), .lit (.int .i32 (-1))]

/-- 'tesseralaw4.ClassesNumbers': WHATEVER THE INPUT: true; the input reads as it did. -/
def classesNumbersSpec : ChangeSpec := { name := "classesNumbers", fn := fun _ => fun
  | [] => { results := [.lit (.bool true)], args := [] }
  | _ => none }
def classesNumbersRow : OpenClaim := { program := "ytddeamecgbdajaadoor", sum := "a56aa1ef92a139f70b5580709b48aaf3da1a3151060c995e4bb26778d80b4a06", func := "tessera/tesseralaw4.ClassesNumbers", spec := "classesNumbers", unfollowed := true, recurses := true, named := ["tessera/spans.runes", "tessera/spans.nothing"], apart := false, laid := [("tessera/spans.runes", laid_tessera_spans_runes), ("tessera/spans.nothing", laid_tessera_spans_nothing)] }
def ClassesNumbersSaid : Prop := classesNumbersRow.holds Tryd.pinned (OpenSpec.ofChange classesNumbersSpec)

/-- ITS FALSE NEIGHBOUR: 'it returns false'. Refute it at one input. -/
def classesNumbersWrong : ChangeSpec := { name := "classesNumbers", fn := fun _ => fun
  | [] => { results := [.lit (.bool false)], args := [] }
  | _ => none }
def ClassesNumbersWrongFalsely : Prop := classesNumbersRow.holds Tryd.pinned (OpenSpec.ofChange classesNumbersWrong)

/-- 'tesseralaw4.ClassesRight': WHATEVER THE INPUT: true; the input reads as it did. -/
def classesRightSpec : ChangeSpec := { name := "classesRight", fn := fun _ => fun
  | [d1, d2, d3] => { results := [.lit (.bool true)], args := [d1, d2, d3] }
  | _ => none }
def classesRightRow : OpenClaim := { program := "ytddeamecgbdajaadoor", sum := "a56aa1ef92a139f70b5580709b48aaf3da1a3151060c995e4bb26778d80b4a06", func := "tessera/tesseralaw4.ClassesRight", spec := "classesRight", unfollowed := true, recurses := true, named := ["tessera/spans.runes", "tessera/spans.nothing"], apart := false, laid := [("tessera/spans.runes", laid_tessera_spans_runes), ("tessera/spans.nothing", laid_tessera_spans_nothing)] }
def ClassesRightSaid : Prop := classesRightRow.holds Tryd.pinned (OpenSpec.ofChange classesRightSpec)

/-- ITS FALSE NEIGHBOUR: 'it returns false'. Refute it at one input. -/
def classesRightWrong : ChangeSpec := { name := "classesRight", fn := fun _ => fun
  | [d1, d2, d3] => { results := [.lit (.bool false)], args := [d1, d2, d3] }
  | _ => none }
def ClassesRightWrongFalsely : Prop := classesRightRow.holds Tryd.pinned (OpenSpec.ofChange classesRightWrong)

/-- 'tesseralaw4.ClassesKinds': WHATEVER THE INPUT: true; the input reads as it did. -/
def classesKindsSpec : ChangeSpec := { name := "classesKinds", fn := fun _ => fun
  | [d1, d2, d3] => { results := [.lit (.bool true)], args := [d1, d2, d3] }
  | _ => none }
def classesKindsRow : OpenClaim := { program := "ytddeamecgbdajaadoor", sum := "a56aa1ef92a139f70b5580709b48aaf3da1a3151060c995e4bb26778d80b4a06", func := "tessera/tesseralaw4.ClassesKinds", spec := "classesKinds", unfollowed := true, recurses := true, named := ["tessera/spans.runes", "tessera/spans.nothing"], apart := false, laid := [("tessera/spans.runes", laid_tessera_spans_runes), ("tessera/spans.nothing", laid_tessera_spans_nothing)] }
def ClassesKindsSaid : Prop := classesKindsRow.holds Tryd.pinned (OpenSpec.ofChange classesKindsSpec)

/-- ITS FALSE NEIGHBOUR: 'it returns false'. Refute it at one input. -/
def classesKindsWrong : ChangeSpec := { name := "classesKinds", fn := fun _ => fun
  | [d1, d2, d3] => { results := [.lit (.bool false)], args := [d1, d2, d3] }
  | _ => none }
def ClassesKindsWrongFalsely : Prop := classesKindsRow.holds Tryd.pinned (OpenSpec.ofChange classesKindsWrong)

/-- 'tesseralaw4.ClassesRuns': WHATEVER THE INPUT: true; the input reads as it did. -/
def classesRunsSpec : ChangeSpec := { name := "classesRuns", fn := fun _ => fun
  | [d1, d2, d3] => { results := [.lit (.bool true)], args := [d1, d2, d3] }
  | _ => none }
def classesRunsRow : OpenClaim := { program := "ytddeamecgbdajaadoor", sum := "a56aa1ef92a139f70b5580709b48aaf3da1a3151060c995e4bb26778d80b4a06", func := "tessera/tesseralaw4.ClassesRuns", spec := "classesRuns", unfollowed := true, recurses := true, named := ["tessera/spans.runes", "tessera/spans.nothing"], apart := false, laid := [("tessera/spans.runes", laid_tessera_spans_runes), ("tessera/spans.nothing", laid_tessera_spans_nothing)] }
def ClassesRunsSaid : Prop := classesRunsRow.holds Tryd.pinned (OpenSpec.ofChange classesRunsSpec)

/-- ITS FALSE NEIGHBOUR: 'it returns false'. Refute it at one input. -/
def classesRunsWrong : ChangeSpec := { name := "classesRuns", fn := fun _ => fun
  | [d1, d2, d3] => { results := [.lit (.bool false)], args := [d1, d2, d3] }
  | _ => none }
def ClassesRunsWrongFalsely : Prop := classesRunsRow.holds Tryd.pinned (OpenSpec.ofChange classesRunsWrong)

/-- 'tesseralaw4.ClassesWhole': WHATEVER THE INPUT: true; the input reads as it did. -/
def classesWholeSpec : ChangeSpec := { name := "classesWhole", fn := fun _ => fun
  | [d1, d2] => { results := [.lit (.bool true)], args := [d1, d2] }
  | _ => none }
def classesWholeRow : OpenClaim := { program := "ytddeamecgbdajaadoor", sum := "a56aa1ef92a139f70b5580709b48aaf3da1a3151060c995e4bb26778d80b4a06", func := "tessera/tesseralaw4.ClassesWhole", spec := "classesWhole", unfollowed := true, recurses := true, named := ["tessera/spans.runes", "tessera/spans.nothing"], apart := false, laid := [("tessera/spans.runes", laid_tessera_spans_runes), ("tessera/spans.nothing", laid_tessera_spans_nothing)] }
def ClassesWholeSaid : Prop := classesWholeRow.holds Tryd.pinned (OpenSpec.ofChange classesWholeSpec)

/-- ITS FALSE NEIGHBOUR: 'it returns false'. Refute it at one input. -/
def classesWholeWrong : ChangeSpec := { name := "classesWhole", fn := fun _ => fun
  | [d1, d2] => { results := [.lit (.bool false)], args := [d1, d2] }
  | _ => none }
def ClassesWholeWrongFalsely : Prop := classesWholeRow.holds Tryd.pinned (OpenSpec.ofChange classesWholeWrong)

/-- 'tesseralaw4.ClassesKept': WHATEVER THE INPUT: true; the input reads as it did. -/
def classesKeptSpec : ChangeSpec := { name := "classesKept", fn := fun _ => fun
  | [d1, d2] => { results := [.lit (.bool true)], args := [d1, d2] }
  | _ => none }
def classesKeptRow : OpenClaim := { program := "ytddeamecgbdajaadoor", sum := "a56aa1ef92a139f70b5580709b48aaf3da1a3151060c995e4bb26778d80b4a06", func := "tessera/tesseralaw4.ClassesKept", spec := "classesKept", unfollowed := true, recurses := true, named := ["tessera/spans.runes", "tessera/spans.nothing"], apart := false, laid := [("tessera/spans.runes", laid_tessera_spans_runes), ("tessera/spans.nothing", laid_tessera_spans_nothing)] }
def ClassesKeptSaid : Prop := classesKeptRow.holds Tryd.pinned (OpenSpec.ofChange classesKeptSpec)

/-- ITS FALSE NEIGHBOUR: 'it returns false'. Refute it at one input. -/
def classesKeptWrong : ChangeSpec := { name := "classesKept", fn := fun _ => fun
  | [d1, d2] => { results := [.lit (.bool false)], args := [d1, d2] }
  | _ => none }
def ClassesKeptWrongFalsely : Prop := classesKeptRow.holds Tryd.pinned (OpenSpec.ofChange classesKeptWrong)

/- THE SECOND FORM. 'bulk': how many values and letters a reading holds, each counted each time it is reached (what is shared counts as often as it is met; a slice's spare places count too). A statement '..UptoSaid' is the law's where the arguments, and the package variables that the reading takes, are together of bulk at most 1048576: NARROWER than '..Said'. Prove '..Said' where nothing that the law and all that it calls make is longer than what came in: it says more and counts as full. Else prove '..UptoSaid'. A law counts once. -/
mutual
def uptoBulk {H : Type} : DataW H → Nat
  | .lit (.string bytes) => bytes.length + 1
  | .lit _ => 1
  | .nil => 1
  | .ptr d => uptoBulk d + 1
  | .slice elems spare => uptoBulkAll elems + uptoBulkAll spare + 1
  | .agg parts => uptoBulkAll parts + 1
  | .iface _ d => uptoBulk d + 1
  | .map entries => uptoBulkEntries entries + 1
  | .held _ => 1
def uptoBulkAll {H : Type} : List (DataW H) → Nat
  | [] => 0
  | d :: r => uptoBulk d + uptoBulkAll r
def uptoBulkEntries {H : Type} : List (Lit × DataW H) → Nat
  | [] => 0
  | x :: r => uptoBulkEntry x + uptoBulkEntries r
def uptoBulkEntry {H : Type} : Lit × DataW H → Nat
  | (.string bytes, d) => bytes.length + uptoBulk d + 1
  | (_, d) => uptoBulk d + 1
 end
def uptoSmall : (H : Type) → List (DataW H) → Bool := fun _ ds => decide (uptoBulkAll ds ≤ 1048576)
def OpenSpec.upto (s : _root_.Go.ChangeSpec) : _root_.Go.OpenSpec := { _root_.Go.OpenSpec.ofChange s with cond := some uptoSmall }

/-- 'tesseralaw4.ClassesNumbers', WHERE WHAT IT READS IS OF BULK AT MOST 1048576: true; the input reads as it did. -/
def classesNumbersUptoRow : OpenClaim := { program := "ytddeamecgbdajaadoor", sum := "a56aa1ef92a139f70b5580709b48aaf3da1a3151060c995e4bb26778d80b4a06", func := "tessera/tesseralaw4.ClassesNumbers", spec := "classesNumbers", unfollowed := true, recurses := true, named := ["tessera/spans.runes", "tessera/spans.nothing"], apart := false, laid := [("tessera/spans.runes", laid_tessera_spans_runes), ("tessera/spans.nothing", laid_tessera_spans_nothing)], narrowed := true }
def ClassesNumbersUptoSaid : Prop := classesNumbersUptoRow.holds Tryd.pinned (OpenSpec.upto classesNumbersSpec)

/-- 'tesseralaw4.ClassesRight', WHERE WHAT IT READS IS OF BULK AT MOST 1048576: true; the input reads as it did. -/
def classesRightUptoRow : OpenClaim := { program := "ytddeamecgbdajaadoor", sum := "a56aa1ef92a139f70b5580709b48aaf3da1a3151060c995e4bb26778d80b4a06", func := "tessera/tesseralaw4.ClassesRight", spec := "classesRight", unfollowed := true, recurses := true, named := ["tessera/spans.runes", "tessera/spans.nothing"], apart := false, laid := [("tessera/spans.runes", laid_tessera_spans_runes), ("tessera/spans.nothing", laid_tessera_spans_nothing)], narrowed := true }
def ClassesRightUptoSaid : Prop := classesRightUptoRow.holds Tryd.pinned (OpenSpec.upto classesRightSpec)

/-- 'tesseralaw4.ClassesKinds', WHERE WHAT IT READS IS OF BULK AT MOST 1048576: true; the input reads as it did. -/
def classesKindsUptoRow : OpenClaim := { program := "ytddeamecgbdajaadoor", sum := "a56aa1ef92a139f70b5580709b48aaf3da1a3151060c995e4bb26778d80b4a06", func := "tessera/tesseralaw4.ClassesKinds", spec := "classesKinds", unfollowed := true, recurses := true, named := ["tessera/spans.runes", "tessera/spans.nothing"], apart := false, laid := [("tessera/spans.runes", laid_tessera_spans_runes), ("tessera/spans.nothing", laid_tessera_spans_nothing)], narrowed := true }
def ClassesKindsUptoSaid : Prop := classesKindsUptoRow.holds Tryd.pinned (OpenSpec.upto classesKindsSpec)

/-- 'tesseralaw4.ClassesRuns', WHERE WHAT IT READS IS OF BULK AT MOST 1048576: true; the input reads as it did. -/
def classesRunsUptoRow : OpenClaim := { program := "ytddeamecgbdajaadoor", sum := "a56aa1ef92a139f70b5580709b48aaf3da1a3151060c995e4bb26778d80b4a06", func := "tessera/tesseralaw4.ClassesRuns", spec := "classesRuns", unfollowed := true, recurses := true, named := ["tessera/spans.runes", "tessera/spans.nothing"], apart := false, laid := [("tessera/spans.runes", laid_tessera_spans_runes), ("tessera/spans.nothing", laid_tessera_spans_nothing)], narrowed := true }
def ClassesRunsUptoSaid : Prop := classesRunsUptoRow.holds Tryd.pinned (OpenSpec.upto classesRunsSpec)

/-- 'tesseralaw4.ClassesWhole', WHERE WHAT IT READS IS OF BULK AT MOST 1048576: true; the input reads as it did. -/
def classesWholeUptoRow : OpenClaim := { program := "ytddeamecgbdajaadoor", sum := "a56aa1ef92a139f70b5580709b48aaf3da1a3151060c995e4bb26778d80b4a06", func := "tessera/tesseralaw4.ClassesWhole", spec := "classesWhole", unfollowed := true, recurses := true, named := ["tessera/spans.runes", "tessera/spans.nothing"], apart := false, laid := [("tessera/spans.runes", laid_tessera_spans_runes), ("tessera/spans.nothing", laid_tessera_spans_nothing)], narrowed := true }
def ClassesWholeUptoSaid : Prop := classesWholeUptoRow.holds Tryd.pinned (OpenSpec.upto classesWholeSpec)

/-- 'tesseralaw4.ClassesKept', WHERE WHAT IT READS IS OF BULK AT MOST 1048576: true; the input reads as it did. -/
def classesKeptUptoRow : OpenClaim := { program := "ytddeamecgbdajaadoor", sum := "a56aa1ef92a139f70b5580709b48aaf3da1a3151060c995e4bb26778d80b4a06", func := "tessera/tesseralaw4.ClassesKept", spec := "classesKept", unfollowed := true, recurses := true, named := ["tessera/spans.runes", "tessera/spans.nothing"], apart := false, laid := [("tessera/spans.runes", laid_tessera_spans_runes), ("tessera/spans.nothing", laid_tessera_spans_nothing)], narrowed := true }
def ClassesKeptUptoSaid : Prop := classesKeptUptoRow.holds Tryd.pinned (OpenSpec.upto classesKeptSpec)

end Rows
end Go.Proofs.YtddeamecgbdajaaDoor
