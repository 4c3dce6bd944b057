/- Bytes in memory that a call itself made. -/
import Derived.Test.YtonbfcpbgkpbaaaRows
import Derived.Test.YtonbfcpbgkpbaaaOView
import Derived.Lib.SmallJoins
namespace Go.Proofs.Ytonbfcpbgkpbaaa.Oc
set_option maxRecDepth 100000
open Go.RowKit
open Go.Joins
/-- A block of bytes that the call itself made. -/
def Own (w : World) (g : Nat) (L : List Value) : Prop := w.heap[g]? = some (.cells L.toArray 5 (0, 0))
theorem Own.below {w w' : World} {g : Nat} {L : List Value} {B : Nat} (h : Own w g L) (hb : Below B w w') (hg : g < B) : Own w' g L := by
  unfold Own; rw [hb.block g hg]; exact h
theorem Own.lt {w : World} {g : Nat} {L : List Value} (h : Own w g L) : g < w.heap.size := (Array.getElem?_eq_some_iff.1 h).1
theorem Own.cell {w : World} {g : Nat} {L : List Value} (h : Own w g L) (j : Nat) : w.cell? ⟨g, j, none⟩ = L[j]? := by
  rw [cell_of_block h]; simp
theorem Own.free {w : World} {g : Nat} {L : List Value} (h : Own w g L) (j : Nat) : w.frozen? ⟨g, j, none⟩ = false := unfrozen_of_block h j
theorem Own.set {w : World} {g : Nat} {L : List Value} (h : Own w g L) (j : Nat) (v : Value) : Own (w.setCell ⟨g, j, none⟩ v) g (L.set j v) := by
  have := block_setCell h (i := j) v
  unfold Own; rw [this]; simp
theorem Own.bs {w : World} {g : Nat} {l r : List UInt8} (h : Own w g (cellsOf (l ++ r))) : BS w (some ⟨g, 0, none⟩) l := by
  refine .inr ⟨_, _, rfl, fun j hj => ?_⟩
  rw [Nat.zero_add, h.cell, cellsOf_get _ j (by simp; omega)]
  simp [List.getD, List.getElem?_append_left hj]
theorem cellsOf_length (l : List UInt8) : (cellsOf l).length = l.length := by simp [cellsOf]
theorem cellsOf_append (l r : List UInt8) : cellsOf (l ++ r) = cellsOf l ++ cellsOf r := by simp [cellsOf]
theorem cellsOf_one (l : List UInt8) : ∀ v ∈ cellsOf l, v.oneCell' = true := by
  intro v hv; simp [cellsOf] at hv; obtain ⟨c, _, rfl⟩ := hv; rfl
theorem cellsOf_set (l : List UInt8) (j : Nat) (c : UInt8) : (cellsOf l).set j (.int .u8 (c.toNat : Int)) = cellsOf (l.set j c) := by
  simp [cellsOf, List.map_set]
theorem info5 : (Try.prog.info? 5).map (fun i => (i.zero, i.size, i.bytes)) = some (some (.int .u8 0), 1, 1) := by kernel_rfl
theorem size5 : (Try.prog.info? 5).map (·.size) = some 1 := by kernel_rfl
end Go.Proofs.Ytonbfcpbgkpbaaa.Oc
