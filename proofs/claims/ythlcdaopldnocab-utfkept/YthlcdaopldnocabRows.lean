/-
  No cell of these rows narrows 'for every input' (looked for: loops, veiled, ifaces, maps, wideKeys, modest, calm, conditions, laid).
  DERIVED. THE GIVEN ROWS OF THIS SEAT. 2 by the template 'for every input the law returns true; each argument reads behind the call as it read before'; 0 by the template 'total and deterministic' (their statements: YthlcdaopldnocabTotals.lean).
  GIVEN WITH THE SEED: the statements are not yours to turn. If you find one false, say at which input.
  Laid BY PROGRAM, IN A SANDBOX (cutbox-rows.mjs): the forced cells as the released guide's own fill.sh prints them over the translation 7f31909b90e3a4f1… (all of the seat's roots in one cut). By AI agents, Wed Nov 11 2026. No macro, syntax, notation, axiom, sorry.
-/
import Derived.Test.YthlcdaopldnocabChecked
import GoSem.Claim
import GoSem.ClaimJoined
import GoSem.ClaimMapViews
import Derived.JoinedTies
import Derived.KernelRfl
namespace Go.Proofs.Ythlcdaopldnocab
/- THE CELL 'sum', in the pinned program and in every row, IS THE sha256 OF THE DUMP (.gsa) THAT YthlcdaopldnocabProg.lean LOADS. Nothing in Lean hashes anything: it is a label: what it is worth is what the hold of that sum in a sandbox is worth. -/
noncomputable def Try.pinned : Pinned := { name := "ythlcdaopldnocab", sum := "7f31909b90e3a4f18c1e4a8bfdc132fe58bda04fe1fb26ed580221466219fea4", checked := Try.checked }
namespace Rows
def none {H : Type} : Left H := { results := [], args := [] }

/-- 'tesseralaw2.UtfHeld': WHATEVER THE INPUT: true; the input reads as it did. -/
def utfHeldSpec : ChangeSpec := { name := "utfHeld", fn := fun _ => fun
  | [d] => { results := [.lit (.bool true)], args := [d] }
  | _ => none }
def utfHeldRow : OpenClaim := { program := "ythlcdaopldnocab", sum := "7f31909b90e3a4f18c1e4a8bfdc132fe58bda04fe1fb26ed580221466219fea4", func := "tessera/tesseralaw2.UtfHeld", spec := "utfHeld", unfollowed := true, recurses := true, apart := false }
def UtfHeldSaid : Prop := utfHeldRow.holds Try.pinned (OpenSpec.ofChange utfHeldSpec)

/-- ITS FALSE NEIGHBOUR: 'it returns false'. Refute it at one input. -/
def utfHeldWrong : ChangeSpec := { name := "utfHeld", fn := fun _ => fun
  | [d] => { results := [.lit (.bool false)], args := [d] }
  | _ => none }
def UtfHeldWrongFalsely : Prop := utfHeldRow.holds Try.pinned (OpenSpec.ofChange utfHeldWrong)

/-- 'tesseralaw2.UtfKept': WHATEVER THE INPUT: true; the input reads as it did. -/
def utfKeptSpec : ChangeSpec := { name := "utfKept", fn := fun _ => fun
  | [d] => { results := [.lit (.bool true)], args := [d] }
  | _ => none }
def utfKeptRow : OpenClaim := { program := "ythlcdaopldnocab", sum := "7f31909b90e3a4f18c1e4a8bfdc132fe58bda04fe1fb26ed580221466219fea4", func := "tessera/tesseralaw2.UtfKept", spec := "utfKept", unfollowed := true, recurses := true, apart := false }
def UtfKeptSaid : Prop := utfKeptRow.holds Try.pinned (OpenSpec.ofChange utfKeptSpec)

/-- ITS FALSE NEIGHBOUR: 'it returns false'. Refute it at one input. -/
def utfKeptWrong : ChangeSpec := { name := "utfKept", fn := fun _ => fun
  | [d] => { results := [.lit (.bool false)], args := [d] }
  | _ => none }
def UtfKeptWrongFalsely : Prop := utfKeptRow.holds Try.pinned (OpenSpec.ofChange utfKeptWrong)

/- THE SECOND FORM. 'bulk': how many values and letters a reading holds, each counted each time it is reached (what is shared counts as often as it is met; a slice's spare places count too). A statement '..UptoSaid' is the law's where the arguments, and the package variables that the reading takes, are together of bulk at most 1048576: NARROWER than '..Said'. Prove '..Said' where nothing that the law and all that it calls make is longer than what came in: it says more and counts as full. Else prove '..UptoSaid'. A law counts once. -/
mutual
def uptoBulk {H : Type} : DataW H → Nat
  | .lit (.string bytes) => bytes.length + 1
  | .lit _ => 1
  | .nil => 1
  | .ptr d => uptoBulk d + 1
  | .slice elems spare => uptoBulkAll elems + uptoBulkAll spare + 1
  | .agg parts => uptoBulkAll parts + 1
  | .iface _ d => uptoBulk d + 1
  | .map entries => uptoBulkEntries entries + 1
  | .held _ => 1
def uptoBulkAll {H : Type} : List (DataW H) → Nat
  | [] => 0
  | d :: r => uptoBulk d + uptoBulkAll r
def uptoBulkEntries {H : Type} : List (Lit × DataW H) → Nat
  | [] => 0
  | x :: r => uptoBulkEntry x + uptoBulkEntries r
def uptoBulkEntry {H : Type} : Lit × DataW H → Nat
  | (.string bytes, d) => bytes.length + uptoBulk d + 1
  | (_, d) => uptoBulk d + 1
 end
def uptoSmall : (H : Type) → List (DataW H) → Bool := fun _ ds => decide (uptoBulkAll ds ≤ 1048576)
def OpenSpec.upto (s : _root_.Go.ChangeSpec) : _root_.Go.OpenSpec := { _root_.Go.OpenSpec.ofChange s with cond := some uptoSmall }

/-- 'tesseralaw2.UtfHeld', WHERE WHAT IT READS IS OF BULK AT MOST 1048576: true; the input reads as it did. -/
def utfHeldUptoRow : OpenClaim := { program := "ythlcdaopldnocab", sum := "7f31909b90e3a4f18c1e4a8bfdc132fe58bda04fe1fb26ed580221466219fea4", func := "tessera/tesseralaw2.UtfHeld", spec := "utfHeld", unfollowed := true, recurses := true, apart := false, narrowed := true }
def UtfHeldUptoSaid : Prop := utfHeldUptoRow.holds Try.pinned (OpenSpec.upto utfHeldSpec)

/-- 'tesseralaw2.UtfKept', WHERE WHAT IT READS IS OF BULK AT MOST 1048576: true; the input reads as it did. -/
def utfKeptUptoRow : OpenClaim := { program := "ythlcdaopldnocab", sum := "7f31909b90e3a4f18c1e4a8bfdc132fe58bda04fe1fb26ed580221466219fea4", func := "tessera/tesseralaw2.UtfKept", spec := "utfKept", unfollowed := true, recurses := true, apart := false, narrowed := true }
def UtfKeptUptoSaid : Prop := utfKeptUptoRow.holds Try.pinned (OpenSpec.upto utfKeptSpec)

end Rows
end Go.Proofs.Ythlcdaopldnocab
