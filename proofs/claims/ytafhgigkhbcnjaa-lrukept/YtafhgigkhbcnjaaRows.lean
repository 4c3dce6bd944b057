/-
  No cell of these rows narrows 'for every input' (looked for: loops, veiled, ifaces, maps, wideKeys, modest, calm, conditions, laid).
  DERIVED. THE GIVEN ROWS OF THIS SEAT. 4 by the template 'for every input the law returns true; each argument reads behind the call as it read before'; 0 by the template 'total and deterministic' (their statements: YtafhgigkhbcnjaaTotals.lean).
  GIVEN WITH THE SEED: the statements are not yours to turn. If you find one false, say at which input.
  Laid BY PROGRAM, IN A SANDBOX (cutbox-rows.mjs): the forced cells as the released guide's own fill.sh prints them over the translation 83c85dbe0c290f1d… (all of the seat's roots in one cut). By AI agents, Wed Nov 11 2026. No macro, syntax, notation, axiom, sorry.
-/
import Derived.Test.YtafhgigkhbcnjaaChecked
import GoSem.Claim
import GoSem.ClaimJoined
import GoSem.ClaimMapViews
import Derived.JoinedTies
import Derived.KernelRfl
namespace Go.Proofs.Ytafhgigkhbcnjaa
/- THE CELL 'sum', in the pinned program and in every row, IS THE sha256 OF THE DUMP (.gsa) THAT YtafhgigkhbcnjaaProg.lean LOADS. Nothing in Lean hashes anything: it is a label: what it is worth is what the hold of that sum in a sandbox is worth. -/
noncomputable def Try.pinned : Pinned := { name := "ytafhgigkhbcnjaa", sum := "83c85dbe0c290f1df68b91a2082286f72f7aa058c275b8ebe85c7ebe6f34f6bb", checked := Try.checked }
namespace Rows
def none {H : Type} : Left H := { results := [], args := [] }

/-- 'tesseralaw11.LruNumbers': WHATEVER THE INPUT: true; the input reads as it did. -/
def lruNumbersSpec : ChangeSpec := { name := "lruNumbers", fn := fun _ => fun
  | [] => { results := [.lit (.bool true)], args := [] }
  | _ => none }
def lruNumbersRow : OpenClaim := { program := "ytafhgigkhbcnjaa", sum := "83c85dbe0c290f1df68b91a2082286f72f7aa058c275b8ebe85c7ebe6f34f6bb", func := "tessera/tesseralaw11.LruNumbers", spec := "lruNumbers", plainKeys := false, apart := false }
def LruNumbersSaid : Prop := lruNumbersRow.holds Try.pinned (OpenSpec.ofChange lruNumbersSpec)

/-- ITS FALSE NEIGHBOUR: 'it returns false'. Refute it at one input. -/
def lruNumbersWrong : ChangeSpec := { name := "lruNumbers", fn := fun _ => fun
  | [] => { results := [.lit (.bool false)], args := [] }
  | _ => none }
def LruNumbersWrongFalsely : Prop := lruNumbersRow.holds Try.pinned (OpenSpec.ofChange lruNumbersWrong)

/-- 'tesseralaw11.LruPlays': WHATEVER THE INPUT: true; the input reads as it did. -/
def lruPlaysSpec : ChangeSpec := { name := "lruPlays", fn := fun _ => fun
  | [d1, d2] => { results := [.lit (.bool true)], args := [d1, d2] }
  | _ => none }
def lruPlaysRow : OpenClaim := { program := "ytafhgigkhbcnjaa", sum := "83c85dbe0c290f1df68b91a2082286f72f7aa058c275b8ebe85c7ebe6f34f6bb", func := "tessera/tesseralaw11.LruPlays", spec := "lruPlays", plainKeys := false, apart := false }
def LruPlaysSaid : Prop := lruPlaysRow.holds Try.pinned (OpenSpec.ofChange lruPlaysSpec)

/-- ITS FALSE NEIGHBOUR: 'it returns false'. Refute it at one input. -/
def lruPlaysWrong : ChangeSpec := { name := "lruPlays", fn := fun _ => fun
  | [d1, d2] => { results := [.lit (.bool false)], args := [d1, d2] }
  | _ => none }
def LruPlaysWrongFalsely : Prop := lruPlaysRow.holds Try.pinned (OpenSpec.ofChange lruPlaysWrong)

/-- 'tesseralaw11.LruGreater': WHATEVER THE INPUT: true; the input reads as it did. -/
def lruGreaterSpec : ChangeSpec := { name := "lruGreater", fn := fun _ => fun
  | [d1, d2, d3] => { results := [.lit (.bool true)], args := [d1, d2, d3] }
  | _ => none }
def lruGreaterRow : OpenClaim := { program := "ytafhgigkhbcnjaa", sum := "83c85dbe0c290f1df68b91a2082286f72f7aa058c275b8ebe85c7ebe6f34f6bb", func := "tessera/tesseralaw11.LruGreater", spec := "lruGreater", plainKeys := false, apart := false }
def LruGreaterSaid : Prop := lruGreaterRow.holds Try.pinned (OpenSpec.ofChange lruGreaterSpec)

/-- ITS FALSE NEIGHBOUR: 'it returns false'. Refute it at one input. -/
def lruGreaterWrong : ChangeSpec := { name := "lruGreater", fn := fun _ => fun
  | [d1, d2, d3] => { results := [.lit (.bool false)], args := [d1, d2, d3] }
  | _ => none }
def LruGreaterWrongFalsely : Prop := lruGreaterRow.holds Try.pinned (OpenSpec.ofChange lruGreaterWrong)

/-- 'tesseralaw11.LruKept': WHATEVER THE INPUT: true; the input reads as it did. -/
def lruKeptSpec : ChangeSpec := { name := "lruKept", fn := fun _ => fun
  | [d] => { results := [.lit (.bool true)], args := [d] }
  | _ => none }
def lruKeptRow : OpenClaim := { program := "ytafhgigkhbcnjaa", sum := "83c85dbe0c290f1df68b91a2082286f72f7aa058c275b8ebe85c7ebe6f34f6bb", func := "tessera/tesseralaw11.LruKept", spec := "lruKept", unfollowed := true, recurses := true, plainKeys := false, apart := false }
def LruKeptSaid : Prop := lruKeptRow.holds Try.pinned (OpenSpec.ofChange lruKeptSpec)

/-- ITS FALSE NEIGHBOUR: 'it returns false'. Refute it at one input. -/
def lruKeptWrong : ChangeSpec := { name := "lruKept", fn := fun _ => fun
  | [d] => { results := [.lit (.bool false)], args := [d] }
  | _ => none }
def LruKeptWrongFalsely : Prop := lruKeptRow.holds Try.pinned (OpenSpec.ofChange lruKeptWrong)

/- THE SECOND FORM. 'bulk': how many values and letters a reading holds, each counted each time it is reached (what is shared counts as often as it is met; a slice's spare places count too). A statement '..UptoSaid' is the law's where the arguments, and the package variables that the reading takes, are together of bulk at most 1048576: NARROWER than '..Said'. Prove '..Said' where nothing that the law and all that it calls make is longer than what came in: it says more and counts as full. Else prove '..UptoSaid'. A law counts once. -/
mutual
def uptoBulk {H : Type} : DataW H → Nat
  | .lit (.string bytes) => bytes.length + 1
  | .lit _ => 1
  | .nil => 1
  | .ptr d => uptoBulk d + 1
  | .slice elems spare => uptoBulkAll elems + uptoBulkAll spare + 1
  | .agg parts => uptoBulkAll parts + 1
  | .iface _ d => uptoBulk d + 1
  | .map entries => uptoBulkEntries entries + 1
  | .held _ => 1
def uptoBulkAll {H : Type} : List (DataW H) → Nat
  | [] => 0
  | d :: r => uptoBulk d + uptoBulkAll r
def uptoBulkEntries {H : Type} : List (Lit × DataW H) → Nat
  | [] => 0
  | x :: r => uptoBulkEntry x + uptoBulkEntries r
def uptoBulkEntry {H : Type} : Lit × DataW H → Nat
  | (.string bytes, d) => bytes.length + uptoBulk d + 1
  | (_, d) => uptoBulk d + 1
 end
def uptoSmall : (H : Type) → List (DataW H) → Bool := fun _ ds => decide (uptoBulkAll ds ≤ 1048576)
def OpenSpec.upto (s : _root_.Go.ChangeSpec) : _root_.Go.OpenSpec := { _root_.Go.OpenSpec.ofChange s with cond := some uptoSmall }

/-- 'tesseralaw11.LruNumbers', WHERE WHAT IT READS IS OF BULK AT MOST 1048576: true; the input reads as it did. -/
def lruNumbersUptoRow : OpenClaim := { program := "ytafhgigkhbcnjaa", sum := "83c85dbe0c290f1df68b91a2082286f72f7aa058c275b8ebe85c7ebe6f34f6bb", func := "tessera/tesseralaw11.LruNumbers", spec := "lruNumbers", plainKeys := false, apart := false, narrowed := true }
def LruNumbersUptoSaid : Prop := lruNumbersUptoRow.holds Try.pinned (OpenSpec.upto lruNumbersSpec)

/-- 'tesseralaw11.LruPlays', WHERE WHAT IT READS IS OF BULK AT MOST 1048576: true; the input reads as it did. -/
def lruPlaysUptoRow : OpenClaim := { program := "ytafhgigkhbcnjaa", sum := "83c85dbe0c290f1df68b91a2082286f72f7aa058c275b8ebe85c7ebe6f34f6bb", func := "tessera/tesseralaw11.LruPlays", spec := "lruPlays", plainKeys := false, apart := false, narrowed := true }
def LruPlaysUptoSaid : Prop := lruPlaysUptoRow.holds Try.pinned (OpenSpec.upto lruPlaysSpec)

/-- 'tesseralaw11.LruGreater', WHERE WHAT IT READS IS OF BULK AT MOST 1048576: true; the input reads as it did. -/
def lruGreaterUptoRow : OpenClaim := { program := "ytafhgigkhbcnjaa", sum := "83c85dbe0c290f1df68b91a2082286f72f7aa058c275b8ebe85c7ebe6f34f6bb", func := "tessera/tesseralaw11.LruGreater", spec := "lruGreater", plainKeys := false, apart := false, narrowed := true }
def LruGreaterUptoSaid : Prop := lruGreaterUptoRow.holds Try.pinned (OpenSpec.upto lruGreaterSpec)

/-- 'tesseralaw11.LruKept', WHERE WHAT IT READS IS OF BULK AT MOST 1048576: true; the input reads as it did. -/
def lruKeptUptoRow : OpenClaim := { program := "ytafhgigkhbcnjaa", sum := "83c85dbe0c290f1df68b91a2082286f72f7aa058c275b8ebe85c7ebe6f34f6bb", func := "tessera/tesseralaw11.LruKept", spec := "lruKept", unfollowed := true, recurses := true, plainKeys := false, apart := false, narrowed := true }
def LruKeptUptoSaid : Prop := lruKeptUptoRow.holds Try.pinned (OpenSpec.upto lruKeptSpec)

end Rows
end Go.Proofs.Ytafhgigkhbcnjaa
