/-
  No cell of these rows narrows 'for every input' (looked for: loops, veiled, ifaces, maps, wideKeys, modest, calm, conditions, laid).
  DERIVED. THE GIVEN ROWS OF THIS SEAT. 6 by the template 'for every input the law returns true; each argument reads behind the call as it read before'; 0 by the template 'total and deterministic' (their statements: YthlcdaopldnocaaTotals.lean).
  GIVEN WITH THE SEED: the statements are not yours to turn. If you find one false, say at which input.
  Laid BY PROGRAM, IN A SANDBOX (cutbox-rows.mjs): the forced cells as the released guide's own fill.sh prints them over the translation 4d91bd87f050cde0… (all of the seat's roots in one cut). By AI agents, Wed Nov 11 2026. No macro, syntax, notation, axiom, sorry.
-/
import Derived.Test.YthlcdaopldnocaaChecked
import GoSem.Claim
import GoSem.ClaimJoined
import GoSem.ClaimMapViews
import Derived.JoinedTies
import Derived.KernelRfl
namespace Go.Proofs.Ythlcdaopldnocaa
/- THE CELL 'sum', in the pinned program and in every row, IS THE sha256 OF THE DUMP (.gsa) THAT YthlcdaopldnocaaProg.lean LOADS. Nothing in Lean hashes anything: it is a label: what it is worth is what the hold of that sum in a sandbox is worth. -/
noncomputable def Try.pinned : Pinned := { name := "ythlcdaopldnocaa", sum := "4d91bd87f050cde040d09cd482e9fd9932157a786c9564718b501c2fcc1d689f", checked := Try.checked }
namespace Rows
def none {H : Type} : Left H := { results := [], args := [] }

/-- 'tesseralaw2.UtfNumbers': WHATEVER THE INPUT: true; the input reads as it did. -/
def utfNumbersSpec : ChangeSpec := { name := "utfNumbers", fn := fun _ => fun
  | [] => { results := [.lit (.bool true)], args := [] }
  | _ => none }
def utfNumbersRow : OpenClaim := { program := "ythlcdaopldnocaa", sum := "4d91bd87f050cde040d09cd482e9fd9932157a786c9564718b501c2fcc1d689f", func := "tessera/tesseralaw2.UtfNumbers", spec := "utfNumbers", unfollowed := true, recurses := true, apart := false }
def UtfNumbersSaid : Prop := utfNumbersRow.holds Try.pinned (OpenSpec.ofChange utfNumbersSpec)

/-- ITS FALSE NEIGHBOUR: 'it returns false'. Refute it at one input. -/
def utfNumbersWrong : ChangeSpec := { name := "utfNumbers", fn := fun _ => fun
  | [] => { results := [.lit (.bool false)], args := [] }
  | _ => none }
def UtfNumbersWrongFalsely : Prop := utfNumbersRow.holds Try.pinned (OpenSpec.ofChange utfNumbersWrong)

/-- 'tesseralaw2.UtfItems': WHATEVER THE INPUT: true; the input reads as it did. -/
def utfItemsSpec : ChangeSpec := { name := "utfItems", fn := fun _ => fun
  | [d1, d2] => { results := [.lit (.bool true)], args := [d1, d2] }
  | _ => none }
def utfItemsRow : OpenClaim := { program := "ythlcdaopldnocaa", sum := "4d91bd87f050cde040d09cd482e9fd9932157a786c9564718b501c2fcc1d689f", func := "tessera/tesseralaw2.UtfItems", spec := "utfItems", unfollowed := true, recurses := true, apart := false }
def UtfItemsSaid : Prop := utfItemsRow.holds Try.pinned (OpenSpec.ofChange utfItemsSpec)

/-- ITS FALSE NEIGHBOUR: 'it returns false'. Refute it at one input. -/
def utfItemsWrong : ChangeSpec := { name := "utfItems", fn := fun _ => fun
  | [d1, d2] => { results := [.lit (.bool false)], args := [d1, d2] }
  | _ => none }
def UtfItemsWrongFalsely : Prop := utfItemsRow.holds Try.pinned (OpenSpec.ofChange utfItemsWrong)

/-- 'tesseralaw2.UtfRange': WHATEVER THE INPUT: true; the input reads as it did. -/
def utfRangeSpec : ChangeSpec := { name := "utfRange", fn := fun _ => fun
  | [d] => { results := [.lit (.bool true)], args := [d] }
  | _ => none }
def utfRangeRow : OpenClaim := { program := "ythlcdaopldnocaa", sum := "4d91bd87f050cde040d09cd482e9fd9932157a786c9564718b501c2fcc1d689f", func := "tessera/tesseralaw2.UtfRange", spec := "utfRange", unfollowed := true, recurses := true, apart := false }
def UtfRangeSaid : Prop := utfRangeRow.holds Try.pinned (OpenSpec.ofChange utfRangeSpec)

/-- ITS FALSE NEIGHBOUR: 'it returns false'. Refute it at one input. -/
def utfRangeWrong : ChangeSpec := { name := "utfRange", fn := fun _ => fun
  | [d] => { results := [.lit (.bool false)], args := [d] }
  | _ => none }
def UtfRangeWrongFalsely : Prop := utfRangeRow.holds Try.pinned (OpenSpec.ofChange utfRangeWrong)

/-- 'tesseralaw2.UtfScans': WHATEVER THE INPUT: true; the input reads as it did. -/
def utfScansSpec : ChangeSpec := { name := "utfScans", fn := fun _ => fun
  | [d1, d2] => { results := [.lit (.bool true)], args := [d1, d2] }
  | _ => none }
def utfScansRow : OpenClaim := { program := "ythlcdaopldnocaa", sum := "4d91bd87f050cde040d09cd482e9fd9932157a786c9564718b501c2fcc1d689f", func := "tessera/tesseralaw2.UtfScans", spec := "utfScans", unfollowed := true, recurses := true, apart := false }
def UtfScansSaid : Prop := utfScansRow.holds Try.pinned (OpenSpec.ofChange utfScansSpec)

/-- ITS FALSE NEIGHBOUR: 'it returns false'. Refute it at one input. -/
def utfScansWrong : ChangeSpec := { name := "utfScans", fn := fun _ => fun
  | [d1, d2] => { results := [.lit (.bool false)], args := [d1, d2] }
  | _ => none }
def UtfScansWrongFalsely : Prop := utfScansRow.holds Try.pinned (OpenSpec.ofChange utfScansWrong)

/-- 'tesseralaw2.UtfTails': WHATEVER THE INPUT: true; the input reads as it did. -/
def utfTailsSpec : ChangeSpec := { name := "utfTails", fn := fun _ => fun
  | [d] => { results := [.lit (.bool true)], args := [d] }
  | _ => none }
def utfTailsRow : OpenClaim := { program := "ythlcdaopldnocaa", sum := "4d91bd87f050cde040d09cd482e9fd9932157a786c9564718b501c2fcc1d689f", func := "tessera/tesseralaw2.UtfTails", spec := "utfTails", unfollowed := true, recurses := true, apart := false }
def UtfTailsSaid : Prop := utfTailsRow.holds Try.pinned (OpenSpec.ofChange utfTailsSpec)

/-- ITS FALSE NEIGHBOUR: 'it returns false'. Refute it at one input. -/
def utfTailsWrong : ChangeSpec := { name := "utfTails", fn := fun _ => fun
  | [d] => { results := [.lit (.bool false)], args := [d] }
  | _ => none }
def UtfTailsWrongFalsely : Prop := utfTailsRow.holds Try.pinned (OpenSpec.ofChange utfTailsWrong)

/-- 'tesseralaw2.UtfValid': WHATEVER THE INPUT: true; the input reads as it did. -/
def utfValidSpec : ChangeSpec := { name := "utfValid", fn := fun _ => fun
  | [d1, d2] => { results := [.lit (.bool true)], args := [d1, d2] }
  | _ => none }
def utfValidRow : OpenClaim := { program := "ythlcdaopldnocaa", sum := "4d91bd87f050cde040d09cd482e9fd9932157a786c9564718b501c2fcc1d689f", func := "tessera/tesseralaw2.UtfValid", spec := "utfValid", unfollowed := true, recurses := true, apart := false }
def UtfValidSaid : Prop := utfValidRow.holds Try.pinned (OpenSpec.ofChange utfValidSpec)

/-- ITS FALSE NEIGHBOUR: 'it returns false'. Refute it at one input. -/
def utfValidWrong : ChangeSpec := { name := "utfValid", fn := fun _ => fun
  | [d1, d2] => { results := [.lit (.bool false)], args := [d1, d2] }
  | _ => none }
def UtfValidWrongFalsely : Prop := utfValidRow.holds Try.pinned (OpenSpec.ofChange utfValidWrong)

/- THE SECOND FORM. 'bulk': how many values and letters a reading holds, each counted each time it is reached (what is shared counts as often as it is met; a slice's spare places count too). A statement '..UptoSaid' is the law's where the arguments, and the package variables that the reading takes, are together of bulk at most 1048576: NARROWER than '..Said'. Prove '..Said' where nothing that the law and all that it calls make is longer than what came in: it says more and counts as full. Else prove '..UptoSaid'. A law counts once. -/
mutual
def uptoBulk {H : Type} : DataW H → Nat
  | .lit (.string bytes) => bytes.length + 1
  | .lit _ => 1
  | .nil => 1
  | .ptr d => uptoBulk d + 1
  | .slice elems spare => uptoBulkAll elems + uptoBulkAll spare + 1
  | .agg parts => uptoBulkAll parts + 1
  | .iface _ d => uptoBulk d + 1
  | .map entries => uptoBulkEntries entries + 1
  | .held _ => 1
def uptoBulkAll {H : Type} : List (DataW H) → Nat
  | [] => 0
  | d :: r => uptoBulk d + uptoBulkAll r
def uptoBulkEntries {H : Type} : List (Lit × DataW H) → Nat
  | [] => 0
  | x :: r => uptoBulkEntry x + uptoBulkEntries r
def uptoBulkEntry {H : Type} : Lit × DataW H → Nat
  | (.string bytes, d) => bytes.length + uptoBulk d + 1
  | (_, d) => uptoBulk d + 1
 end
def uptoSmall : (H : Type) → List (DataW H) → Bool := fun _ ds => decide (uptoBulkAll ds ≤ 1048576)
def OpenSpec.upto (s : _root_.Go.ChangeSpec) : _root_.Go.OpenSpec := { _root_.Go.OpenSpec.ofChange s with cond := some uptoSmall }

/-- 'tesseralaw2.UtfNumbers', WHERE WHAT IT READS IS OF BULK AT MOST 1048576: true; the input reads as it did. -/
def utfNumbersUptoRow : OpenClaim := { program := "ythlcdaopldnocaa", sum := "4d91bd87f050cde040d09cd482e9fd9932157a786c9564718b501c2fcc1d689f", func := "tessera/tesseralaw2.UtfNumbers", spec := "utfNumbers", unfollowed := true, recurses := true, apart := false, narrowed := true }
def UtfNumbersUptoSaid : Prop := utfNumbersUptoRow.holds Try.pinned (OpenSpec.upto utfNumbersSpec)

/-- 'tesseralaw2.UtfItems', WHERE WHAT IT READS IS OF BULK AT MOST 1048576: true; the input reads as it did. -/
def utfItemsUptoRow : OpenClaim := { program := "ythlcdaopldnocaa", sum := "4d91bd87f050cde040d09cd482e9fd9932157a786c9564718b501c2fcc1d689f", func := "tessera/tesseralaw2.UtfItems", spec := "utfItems", unfollowed := true, recurses := true, apart := false, narrowed := true }
def UtfItemsUptoSaid : Prop := utfItemsUptoRow.holds Try.pinned (OpenSpec.upto utfItemsSpec)

/-- 'tesseralaw2.UtfRange', WHERE WHAT IT READS IS OF BULK AT MOST 1048576: true; the input reads as it did. -/
def utfRangeUptoRow : OpenClaim := { program := "ythlcdaopldnocaa", sum := "4d91bd87f050cde040d09cd482e9fd9932157a786c9564718b501c2fcc1d689f", func := "tessera/tesseralaw2.UtfRange", spec := "utfRange", unfollowed := true, recurses := true, apart := false, narrowed := true }
def UtfRangeUptoSaid : Prop := utfRangeUptoRow.holds Try.pinned (OpenSpec.upto utfRangeSpec)

/-- 'tesseralaw2.UtfScans', WHERE WHAT IT READS IS OF BULK AT MOST 1048576: true; the input reads as it did. -/
def utfScansUptoRow : OpenClaim := { program := "ythlcdaopldnocaa", sum := "4d91bd87f050cde040d09cd482e9fd9932157a786c9564718b501c2fcc1d689f", func := "tessera/tesseralaw2.UtfScans", spec := "utfScans", unfollowed := true, recurses := true, apart := false, narrowed := true }
def UtfScansUptoSaid : Prop := utfScansUptoRow.holds Try.pinned (OpenSpec.upto utfScansSpec)

/-- 'tesseralaw2.UtfTails', WHERE WHAT IT READS IS OF BULK AT MOST 1048576: true; the input reads as it did. -/
def utfTailsUptoRow : OpenClaim := { program := "ythlcdaopldnocaa", sum := "4d91bd87f050cde040d09cd482e9fd9932157a786c9564718b501c2fcc1d689f", func := "tessera/tesseralaw2.UtfTails", spec := "utfTails", unfollowed := true, recurses := true, apart := false, narrowed := true }
def UtfTailsUptoSaid : Prop := utfTailsUptoRow.holds Try.pinned (OpenSpec.upto utfTailsSpec)

/-- 'tesseralaw2.UtfValid', WHERE WHAT IT READS IS OF BULK AT MOST 1048576: true; the input reads as it did. -/
def utfValidUptoRow : OpenClaim := { program := "ythlcdaopldnocaa", sum := "4d91bd87f050cde040d09cd482e9fd9932157a786c9564718b501c2fcc1d689f", func := "tessera/tesseralaw2.UtfValid", spec := "utfValid", unfollowed := true, recurses := true, apart := false, narrowed := true }
def UtfValidUptoSaid : Prop := utfValidUptoRow.holds Try.pinned (OpenSpec.upto utfValidSpec)

end Rows
end Go.Proofs.Ythlcdaopldnocaa
