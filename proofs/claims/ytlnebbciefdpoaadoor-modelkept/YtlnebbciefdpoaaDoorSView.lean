/- Lists of spans in memory; the two package-level variables. -/
import Derived.Test.YtlnebbciefdpoaaDoorSMath
import Derived.Test.YtlnebbciefdpoaaDoorRows
import Derived.WalkKit
import Derived.ProofKit
import Derived.Below
import Derived.OpenShut
import Derived.WalkSpells
import Derived.WalkLawsBesides
import Derived.Deep.QuietTactic
import Derived.BigQuiet
namespace Go.Proofs.YtlnebbciefdpoaaDoor
open Go.RowKit
/-- Its value. -/
def spv (x : Sp) : Value := .agg #[.int .i32 x.lo, .int .i32 x.hi]
/-- A span's two cells. -/
def SpAt (w : World) (b off : Nat) (x : Sp) : Prop := w.cell? ⟨b, off, none⟩ = some (.int .i32 x.lo) ∧ w.cell? ⟨b, off + 1, none⟩ = some (.int .i32 x.hi)
theorem SpAt.below {w w' : World} {b off : Nat} {x : Sp} (h : SpAt w b off x) (hb : Below w.heap.size w w') : SpAt w' b off x :=
  ⟨(hb.cell (World.block_lt_of_cell? w _ h.1)).trans h.1, (hb.cell (World.block_lt_of_cell? w _ h.2)).trans h.2⟩
/-- The slice that begins at a holds the spans l. -/
def SPS (w : World) (a : Option Addr) (l : List Sp) : Prop :=
  l = [] ∨ ∃ b off, a = some ⟨b, off, none⟩ ∧ ∀ i x, l[i]? = some x → SpAt w b (off + i * 2) x
theorem SPS.below {w w' : World} {a : Option Addr} {l : List Sp} (h : SPS w a l) (hb : Below w.heap.size w w') : SPS w' a l := by
  rcases h with h | ⟨b, off, rfl, hc⟩
  · exact .inl h
  · exact .inr ⟨b, off, rfl, fun i x hx => (hc i x hx).below hb⟩
theorem SPS.take {w : World} {a : Option Addr} {l : List Sp} (h : SPS w a l) (n : Nat) : SPS w a (l.take n) := by
  rcases h with rfl | ⟨b, off, rfl, hc⟩
  · exact .inl (by simp)
  · refine .inr ⟨b, off, rfl, fun i x hx => hc i x ?_⟩
    rw [List.getElem?_take] at hx
    split at hx
    · exact hx
    · cases hx
/-- What the package-level variables hold: block 0: nothing; block 1: runes. -/
def GL (w : World) : Prop := SpAt w 0 0 ⟨0, -1⟩ ∧ SpAt w 1 0 lowR ∧ SpAt w 1 2 highR
theorem GL.below {w w' : World} (h : GL w) (hb : Below w.heap.size w w') : GL w' := ⟨h.1.below hb, h.2.1.below hb, h.2.2.below hb⟩
theorem cell_alloc_s {w : World} {a : Addr} {v : Value} (h : w.cell? a = some v) (o : Obj) : (w.alloc o).cell? a = some v :=
  (((Below.refl w.heap.size w).alloc (Nat.le_refl _) o).cell (World.block_lt_of_cell? w _ h)).trans h
/-- Their cells, one by one; there are two blocks at the least. -/
theorem GL.cells {w : World} (h : GL w) : w.cell? ⟨0, 0, none⟩ = some (.int .i32 0) ∧ w.cell? ⟨0, 1, none⟩ = some (.int .i32 (-1)) ∧ w.cell? ⟨1, 0, none⟩ = some (.int .i32 0) ∧ w.cell? ⟨1, 1, none⟩ = some (.int .i32 55295) ∧
    w.cell? ⟨1, 2, none⟩ = some (.int .i32 57344) ∧ w.cell? ⟨1, 3, none⟩ = some (.int .i32 1114111) ∧ w.heap.size ≠ 0 ∧ w.heap.size ≠ 1 := by
  have := World.block_lt_of_cell? w _ h.2.1.1
  have h9 := World.block_lt_of_cell? w _ h.1.1
  simp only at this h9
  exact ⟨h.1.1, h.1.2, h.2.1.1, h.2.1.2, h.2.2.1, h.2.2.2, by omega, by omega⟩
end Go.Proofs.YtlnebbciefdpoaaDoor
