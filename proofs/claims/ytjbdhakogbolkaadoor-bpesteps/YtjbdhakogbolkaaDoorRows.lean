/-
  NARROWER THAN 'FOR EVERY INPUT', by the rows' own cells (each row's printed sentence says how): BpeNumbers: laid · BpeMerges: laid · BpeJoins: laid · BpeEnds: laid · BpeSteps: laid · BpeCuts: laid.
  DERIVED. THE GIVEN ROWS OF THIS SEAT. 6 by the template 'for every input the law returns true; each argument reads behind the call as it read before'; 0 by the template 'total and deterministic' (their statements: YtjbdhakogbolkaaDoorTotals.lean).
  GIVEN WITH THE SEED: the statements are not yours to turn. If you find one false, say at which input.
  Laid BY PROGRAM, IN A SANDBOX (cutbox-rows.mjs): the forced cells as the released guide's own fill.sh prints them over the translation 81fdb6a6192a55a1… (all of the seat's roots in one cut). By AI agents, Wed Nov 11 2026. No macro, syntax, notation, axiom, sorry.
-/
import Derived.Test.YtjbdhakogbolkaaDoorChecked
import GoSem.Claim
import GoSem.ClaimJoined
import GoSem.ClaimMapViews
import Derived.JoinedTies
import Derived.KernelRfl
namespace Go.Proofs.YtjbdhakogbolkaaDoor
/- THE CELL 'sum', in the pinned program and in every row, IS THE sha256 OF THE DUMP (.gsa) THAT YtjbdhakogbolkaaDoorProg.lean LOADS. Nothing in Lean hashes anything: it is a label: what it is worth is what the hold of that sum in a sandbox is worth. -/
noncomputable def Tryd.pinned : Pinned := { name := "ytjbdhakogbolkaadoor", sum := "81fdb6a6192a55a11bac92249fc6b1d2dd701c6188a26075dc40373c14bff75c", checked := Tryd.checked }
namespace Rows
def none {H : Type} : Left H := { results := [], args := [] }

/- WHAT THE LISTED PACKAGE-LEVEL VARIABLES READ AS WHEN THE CALL BEGINS. Each datum BY PROGRAM (the guide's laid-datum.mjs) off the statement by which the dump's own 'gosem.cut.vars' lays the variable. In a bare row this is a premise. The card (YtjbdhakogbolkaaDoorCards.lean) ties it to the program's text. -/
def laid_tessera_spans_runes {H : Type} : DataW H := .agg [.agg [.lit (.int .i32 0), .lit (.int .i32 55295)], .agg [.lit (.int .i32 57344), .lit (.int .i32 1114111)]]
def laid_tessera_spans_nothing {H : Type} : DataW H := .agg [.lit (.int .i32 0), .lit (.int .i32 (-1))]

/-- 'tesseralaw10.BpeNumbers': WHATEVER THE INPUT: true; the input reads as it did. -/
def bpeNumbersSpec : ChangeSpec := { name := "bpeNumbers", fn := fun _ => fun
  | [] => { results := [.lit (.bool true)], args := [] }
  | _ => none }
def bpeNumbersRow : OpenClaim := { program := "ytjbdhakogbolkaadoor", sum := "81fdb6a6192a55a11bac92249fc6b1d2dd701c6188a26075dc40373c14bff75c", func := "tessera/tesseralaw10.BpeNumbers", spec := "bpeNumbers", unfollowed := true, recurses := true, named := ["tessera/spans.runes", "tessera/spans.nothing"], plainKeys := false, apart := false, laid := [("tessera/spans.runes", laid_tessera_spans_runes), ("tessera/spans.nothing", laid_tessera_spans_nothing)] }
def BpeNumbersSaid : Prop := bpeNumbersRow.holds Tryd.pinned (OpenSpec.ofChange bpeNumbersSpec)

/-- ITS FALSE NEIGHBOUR: 'it returns false'. Refute it at one input. -/
def bpeNumbersWrong : ChangeSpec := { name := "bpeNumbers", fn := fun _ => fun
  | [] => { results := [.lit (.bool false)], args := [] }
  | _ => none }
def BpeNumbersWrongFalsely : Prop := bpeNumbersRow.holds Tryd.pinned (OpenSpec.ofChange bpeNumbersWrong)

/-- 'tesseralaw10.BpeMerges': WHATEVER THE INPUT: true; the input reads as it did. -/
def bpeMergesSpec : ChangeSpec := { name := "bpeMerges", fn := fun _ => fun
  | [d1, d2, d3] => { results := [.lit (.bool true)], args := [d1, d2, d3] }
  | _ => none }
def bpeMergesRow : OpenClaim := { program := "ytjbdhakogbolkaadoor", sum := "81fdb6a6192a55a11bac92249fc6b1d2dd701c6188a26075dc40373c14bff75c", func := "tessera/tesseralaw10.BpeMerges", spec := "bpeMerges", unfollowed := true, recurses := true, named := ["tessera/spans.runes", "tessera/spans.nothing"], plainKeys := false, apart := false, laid := [("tessera/spans.runes", laid_tessera_spans_runes), ("tessera/spans.nothing", laid_tessera_spans_nothing)] }
def BpeMergesSaid : Prop := bpeMergesRow.holds Tryd.pinned (OpenSpec.ofChange bpeMergesSpec)

/-- ITS FALSE NEIGHBOUR: 'it returns false'. Refute it at one input. -/
def bpeMergesWrong : ChangeSpec := { name := "bpeMerges", fn := fun _ => fun
  | [d1, d2, d3] => { results := [.lit (.bool false)], args := [d1, d2, d3] }
  | _ => none }
def BpeMergesWrongFalsely : Prop := bpeMergesRow.holds Tryd.pinned (OpenSpec.ofChange bpeMergesWrong)

/-- 'tesseralaw10.BpeJoins': WHATEVER THE INPUT: true; the input reads as it did. -/
def bpeJoinsSpec : ChangeSpec := { name := "bpeJoins", fn := fun _ => fun
  | [d1, d2] => { results := [.lit (.bool true)], args := [d1, d2] }
  | _ => none }
def bpeJoinsRow : OpenClaim := { program := "ytjbdhakogbolkaadoor", sum := "81fdb6a6192a55a11bac92249fc6b1d2dd701c6188a26075dc40373c14bff75c", func := "tessera/tesseralaw10.BpeJoins", spec := "bpeJoins", unfollowed := true, recurses := true, named := ["tessera/spans.runes", "tessera/spans.nothing"], plainKeys := false, apart := false, laid := [("tessera/spans.runes", laid_tessera_spans_runes), ("tessera/spans.nothing", laid_tessera_spans_nothing)] }
def BpeJoinsSaid : Prop := bpeJoinsRow.holds Tryd.pinned (OpenSpec.ofChange bpeJoinsSpec)

/-- ITS FALSE NEIGHBOUR: 'it returns false'. Refute it at one input. -/
def bpeJoinsWrong : ChangeSpec := { name := "bpeJoins", fn := fun _ => fun
  | [d1, d2] => { results := [.lit (.bool false)], args := [d1, d2] }
  | _ => none }
def BpeJoinsWrongFalsely : Prop := bpeJoinsRow.holds Tryd.pinned (OpenSpec.ofChange bpeJoinsWrong)

/-- 'tesseralaw10.BpeEnds': WHATEVER THE INPUT: true; the input reads as it did. -/
def bpeEndsSpec : ChangeSpec := { name := "bpeEnds", fn := fun _ => fun
  | [d1, d2] => { results := [.lit (.bool true)], args := [d1, d2] }
  | _ => none }
def bpeEndsRow : OpenClaim := { program := "ytjbdhakogbolkaadoor", sum := "81fdb6a6192a55a11bac92249fc6b1d2dd701c6188a26075dc40373c14bff75c", func := "tessera/tesseralaw10.BpeEnds", spec := "bpeEnds", unfollowed := true, recurses := true, named := ["tessera/spans.runes", "tessera/spans.nothing"], plainKeys := false, apart := false, laid := [("tessera/spans.runes", laid_tessera_spans_runes), ("tessera/spans.nothing", laid_tessera_spans_nothing)] }
def BpeEndsSaid : Prop := bpeEndsRow.holds Tryd.pinned (OpenSpec.ofChange bpeEndsSpec)

/-- ITS FALSE NEIGHBOUR: 'it returns false'. Refute it at one input. -/
def bpeEndsWrong : ChangeSpec := { name := "bpeEnds", fn := fun _ => fun
  | [d1, d2] => { results := [.lit (.bool false)], args := [d1, d2] }
  | _ => none }
def BpeEndsWrongFalsely : Prop := bpeEndsRow.holds Tryd.pinned (OpenSpec.ofChange bpeEndsWrong)

/-- 'tesseralaw10.BpeSteps': WHATEVER THE INPUT: true; the input reads as it did. -/
def bpeStepsSpec : ChangeSpec := { name := "bpeSteps", fn := fun _ => fun
  | [d1, d2] => { results := [.lit (.bool true)], args := [d1, d2] }
  | _ => none }
def bpeStepsRow : OpenClaim := { program := "ytjbdhakogbolkaadoor", sum := "81fdb6a6192a55a11bac92249fc6b1d2dd701c6188a26075dc40373c14bff75c", func := "tessera/tesseralaw10.BpeSteps", spec := "bpeSteps", unfollowed := true, recurses := true, named := ["tessera/spans.runes", "tessera/spans.nothing"], plainKeys := false, apart := false, laid := [("tessera/spans.runes", laid_tessera_spans_runes), ("tessera/spans.nothing", laid_tessera_spans_nothing)] }
def BpeStepsSaid : Prop := bpeStepsRow.holds Tryd.pinned (OpenSpec.ofChange bpeStepsSpec)

/-- ITS FALSE NEIGHBOUR: 'it returns false'. Refute it at one input. -/
def bpeStepsWrong : ChangeSpec := { name := "bpeSteps", fn := fun _ => fun
  | [d1, d2] => { results := [.lit (.bool false)], args := [d1, d2] }
  | _ => none }
def BpeStepsWrongFalsely : Prop := bpeStepsRow.holds Tryd.pinned (OpenSpec.ofChange bpeStepsWrong)

/-- 'tesseralaw10.BpeCuts': WHATEVER THE INPUT: true; the input reads as it did. -/
def bpeCutsSpec : ChangeSpec := { name := "bpeCuts", fn := fun _ => fun
  | [d1, d2, d3] => { results := [.lit (.bool true)], args := [d1, d2, d3] }
  | _ => none }
def bpeCutsRow : OpenClaim := { program := "ytjbdhakogbolkaadoor", sum := "81fdb6a6192a55a11bac92249fc6b1d2dd701c6188a26075dc40373c14bff75c", func := "tessera/tesseralaw10.BpeCuts", spec := "bpeCuts", unfollowed := true, recurses := true, named := ["tessera/spans.runes", "tessera/spans.nothing"], plainKeys := false, apart := false, laid := [("tessera/spans.runes", laid_tessera_spans_runes), ("tessera/spans.nothing", laid_tessera_spans_nothing)] }
def BpeCutsSaid : Prop := bpeCutsRow.holds Tryd.pinned (OpenSpec.ofChange bpeCutsSpec)

/-- ITS FALSE NEIGHBOUR: 'it returns false'. Refute it at one input. -/
def bpeCutsWrong : ChangeSpec := { name := "bpeCuts", fn := fun _ => fun
  | [d1, d2, d3] => { results := [.lit (.bool false)], args := [d1, d2, d3] }
  | _ => none }
def BpeCutsWrongFalsely : Prop := bpeCutsRow.holds Tryd.pinned (OpenSpec.ofChange bpeCutsWrong)

/- THE SECOND FORM. 'bulk': how many values and letters a reading holds, each counted each time it is reached (what is shared counts as often as it is met; a slice's spare places count too). A statement '..UptoSaid' is the law's where the arguments, and the package variables that the reading takes, are together of bulk at most 1048576: NARROWER than '..Said'. Prove '..Said' where nothing that the law and all that it calls make is longer than what came in: it says more and counts as full. Else prove '..UptoSaid'. A law counts once. -/
mutual
def uptoBulk {H : Type} : DataW H → Nat
  | .lit (.string bytes) => bytes.length + 1
  | .lit _ => 1
  | .nil => 1
  | .ptr d => uptoBulk d + 1
  | .slice elems spare => uptoBulkAll elems + uptoBulkAll spare + 1
  | .agg parts => uptoBulkAll parts + 1
  | .iface _ d => uptoBulk d + 1
  | .map entries => uptoBulkEntries entries + 1
  | .held _ => 1
def uptoBulkAll {H : Type} : List (DataW H) → Nat
  | [] => 0
  | d :: r => uptoBulk d + uptoBulkAll r
def uptoBulkEntries {H : Type} : List (Lit × DataW H) → Nat
  | [] => 0
  | x :: r => uptoBulkEntry x + uptoBulkEntries r
def uptoBulkEntry {H : Type} : Lit × DataW H → Nat
  | (.string bytes, d) => bytes.length + uptoBulk d + 1
  | (_, d) => uptoBulk d + 1
 end
def uptoSmall : (H : Type) → List (DataW H) → Bool := fun _ ds => decide (uptoBulkAll ds ≤ 1048576)
def OpenSpec.upto (s : _root_.Go.ChangeSpec) : _root_.Go.OpenSpec := { _root_.Go.OpenSpec.ofChange s with cond := some uptoSmall }

/-- 'tesseralaw10.BpeNumbers', WHERE WHAT IT READS IS OF BULK AT MOST 1048576: true; the input reads as it did. -/
def bpeNumbersUptoRow : OpenClaim := { program := "ytjbdhakogbolkaadoor", sum := "81fdb6a6192a55a11bac92249fc6b1d2dd701c6188a26075dc40373c14bff75c", func := "tessera/tesseralaw10.BpeNumbers", spec := "bpeNumbers", unfollowed := true, recurses := true, named := ["tessera/spans.runes", "tessera/spans.nothing"], plainKeys := false, apart := false, laid := [("tessera/spans.runes", laid_tessera_spans_runes), ("tessera/spans.nothing", laid_tessera_spans_nothing)], narrowed := true }
def BpeNumbersUptoSaid : Prop := bpeNumbersUptoRow.holds Tryd.pinned (OpenSpec.upto bpeNumbersSpec)

/-- 'tesseralaw10.BpeMerges', WHERE WHAT IT READS IS OF BULK AT MOST 1048576: true; the input reads as it did. -/
def bpeMergesUptoRow : OpenClaim := { program := "ytjbdhakogbolkaadoor", sum := "81fdb6a6192a55a11bac92249fc6b1d2dd701c6188a26075dc40373c14bff75c", func := "tessera/tesseralaw10.BpeMerges", spec := "bpeMerges", unfollowed := true, recurses := true, named := ["tessera/spans.runes", "tessera/spans.nothing"], plainKeys := false, apart := false, laid := [("tessera/spans.runes", laid_tessera_spans_runes), ("tessera/spans.nothing", laid_tessera_spans_nothing)], narrowed := true }
def BpeMergesUptoSaid : Prop := bpeMergesUptoRow.holds Tryd.pinned (OpenSpec.upto bpeMergesSpec)

/-- 'tesseralaw10.BpeJoins', WHERE WHAT IT READS IS OF BULK AT MOST 1048576: true; the input reads as it did. -/
def bpeJoinsUptoRow : OpenClaim := { program := "ytjbdhakogbolkaadoor", sum := "81fdb6a6192a55a11bac92249fc6b1d2dd701c6188a26075dc40373c14bff75c", func := "tessera/tesseralaw10.BpeJoins", spec := "bpeJoins", unfollowed := true, recurses := true, named := ["tessera/spans.runes", "tessera/spans.nothing"], plainKeys := false, apart := false, laid := [("tessera/spans.runes", laid_tessera_spans_runes), ("tessera/spans.nothing", laid_tessera_spans_nothing)], narrowed := true }
def BpeJoinsUptoSaid : Prop := bpeJoinsUptoRow.holds Tryd.pinned (OpenSpec.upto bpeJoinsSpec)

/-- 'tesseralaw10.BpeEnds', WHERE WHAT IT READS IS OF BULK AT MOST 1048576: true; the input reads as it did. -/
def bpeEndsUptoRow : OpenClaim := { program := "ytjbdhakogbolkaadoor", sum := "81fdb6a6192a55a11bac92249fc6b1d2dd701c6188a26075dc40373c14bff75c", func := "tessera/tesseralaw10.BpeEnds", spec := "bpeEnds", unfollowed := true, recurses := true, named := ["tessera/spans.runes", "tessera/spans.nothing"], plainKeys := false, apart := false, laid := [("tessera/spans.runes", laid_tessera_spans_runes), ("tessera/spans.nothing", laid_tessera_spans_nothing)], narrowed := true }
def BpeEndsUptoSaid : Prop := bpeEndsUptoRow.holds Tryd.pinned (OpenSpec.upto bpeEndsSpec)

/-- 'tesseralaw10.BpeSteps', WHERE WHAT IT READS IS OF BULK AT MOST 1048576: true; the input reads as it did. -/
def bpeStepsUptoRow : OpenClaim := { program := "ytjbdhakogbolkaadoor", sum := "81fdb6a6192a55a11bac92249fc6b1d2dd701c6188a26075dc40373c14bff75c", func := "tessera/tesseralaw10.BpeSteps", spec := "bpeSteps", unfollowed := true, recurses := true, named := ["tessera/spans.runes", "tessera/spans.nothing"], plainKeys := false, apart := false, laid := [("tessera/spans.runes", laid_tessera_spans_runes), ("tessera/spans.nothing", laid_tessera_spans_nothing)], narrowed := true }
def BpeStepsUptoSaid : Prop := bpeStepsUptoRow.holds Tryd.pinned (OpenSpec.upto bpeStepsSpec)

/-- 'tesseralaw10.BpeCuts', WHERE WHAT IT READS IS OF BULK AT MOST 1048576: true; the input reads as it did. -/
def bpeCutsUptoRow : OpenClaim := { program := "ytjbdhakogbolkaadoor", sum := "81fdb6a6192a55a11bac92249fc6b1d2dd701c6188a26075dc40373c14bff75c", func := "tessera/tesseralaw10.BpeCuts", spec := "bpeCuts", unfollowed := true, recurses := true, named := ["tessera/spans.runes", "tessera/spans.nothing"], plainKeys := false, apart := false, laid := [("tessera/spans.runes", laid_tessera_spans_runes), ("tessera/spans.nothing", laid_tessera_spans_nothing)], narrowed := true }
def BpeCutsUptoSaid : Prop := bpeCutsUptoRow.holds Tryd.pinned (OpenSpec.upto bpeCutsSpec)

end Rows
end Go.Proofs.YtjbdhakogbolkaaDoor
