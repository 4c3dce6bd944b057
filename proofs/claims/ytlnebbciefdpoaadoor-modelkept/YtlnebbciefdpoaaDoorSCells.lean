/- Lists of spans as cells. -/
import Derived.Test.YtlnebbciefdpoaaDoorSRefRight
import Derived.Lib.SmallJoins
namespace Go.Proofs.YtlnebbciefdpoaaDoor
open Go.RowKit Go.Sort Go.Joins
/-- A list's cells. -/
def cellsS (l : List Sp) : List Value := l.flatMap fun x => [.int .i32 x.lo, .int .i32 x.hi]
theorem cellsS_length (l : List Sp) : (cellsS l).length = l.length * 2 := by
  induction l with
  | nil => rfl
  | cons x l ih => simp only [cellsS, List.flatMap_cons, List.length_append, List.length_cons] at ih ⊢; rw [ih]; simp; omega
theorem cellsS_get (l : List Sp) (i : Nat) (x : Sp) (h : l[i]? = some x) : (cellsS l)[i * 2]? = some (.int .i32 x.lo) ∧ (cellsS l)[i * 2 + 1]? = some (.int .i32 x.hi) := by
  induction l generalizing i with
  | nil => simp at h
  | cons y l ih =>
    cases i with
    | zero =>
      have : y = x := by simpa using h
      subst this
      exact ⟨rfl, rfl⟩
    | succ i =>
      have := ih i (by simpa using h)
      have e : cellsS (y :: l) = .int .i32 y.lo :: .int .i32 y.hi :: cellsS l := rfl
      rw [e, show (i + 1) * 2 = i * 2 + 1 + 1 by omega, show i * 2 + 1 + 1 + 1 = i * 2 + 1 + 1 + 1 from rfl]
      simpa using this
theorem SPS.of_block {w : World} {g : Nat} {l r : List Sp} {t : TypeId} {fr : Nat × Nat} (h : w.heap[g]? = some (.cells (cellsS (l ++ r)).toArray t fr)) : SPS w (some ⟨g, 0, none⟩) l := by
  refine .inr ⟨g, 0, rfl, fun i x hx => ?_⟩
  have hx' : (l ++ r)[i]? = some x := by
    rw [List.getElem?_append_left (List.getElem?_eq_some_iff.1 hx).1]; exact hx
  obtain ⟨h0, h1⟩ := cellsS_get _ _ _ hx'
  refine ⟨?_, ?_⟩ <;> rw [cell_of_block h, Nat.zero_add] <;> simpa
theorem SPS.new (w : World) (l : List Sp) (t : TypeId) : SPS (w.alloc (.cells (cellsS l).toArray t)) (some ⟨w.heap.size, 0, none⟩) l :=
  SPS.of_block (r := []) (by rw [List.append_nil]; exact heap_alloc_new _ _)
end Go.Proofs.YtlnebbciefdpoaaDoor
