/- An item of a row in memory. -/
import Derived.Test.YtddeamecgbdajaaDoorItTurn
namespace Go.Proofs.YtddeamecgbdajaaDoor
open Go.RowKit Go.Shelf
open Go.Joins
theorem cellsI_get (l : List It) (i : Nat) (x : It) (h : l[i]? = some x) (j : Nat) (hj : j < 4) : (cellsI l)[i * 4 + j]? = (cellI x)[j]? := by
  induction l generalizing i with
  | nil => simp at h
  | cons y l ih =>
    have hy : (cellI y).length = 4 := rfl
    show (cellI y ++ cellsI l)[i * 4 + j]? = _
    cases i with
    | zero =>
      have : y = x := by simpa using h
      subst this
      rw [List.getElem?_append_left (by omega), Nat.zero_mul, Nat.zero_add]
    | succ i =>
      rw [List.getElem?_append_right (by omega), hy, show (i + 1) * 4 + j - 4 = i * 4 + j by omega]
      exact ih i (by simpa using h)
/-- A row's item at place i lies there. -/
def ItAt (W : World) (g : Nat) (i : Nat) (x : It) : Prop :=
  W.cell? ⟨g, i * 4, none⟩ = some (.int .i64 (x.frm : Nat)) ∧ W.cell? ⟨g, i * 4 + 1, none⟩ = some (.int .i64 (x.bytes : Nat)) ∧ W.cell? ⟨g, i * 4 + 2, none⟩ = some (.int .i32 (x.rune : Nat)) ∧ W.cell? ⟨g, i * 4 + 3, none⟩ = some (.bool x.bad)
theorem OwnI.form {T : TypeId} {w : World} {base : Nat} {v : Value} {l : List It} (h : OwnI T w base v l) (hl : l ≠ []) :
    ∃ g cap, v = .slice (some ⟨g, 0, none⟩) l.length cap ∧ base ≤ g ∧ g < w.heap.size ∧ l.length ≤ cap ∧ cap ≤ 9223372036854775807 ∧ ∀ i x, l[i]? = some x → ItAt w g i x := by
  have h0 := List.length_pos_iff.2 hl
  rcases h.1.2 with ⟨_, h1⟩ | ⟨g, cap, cur, hv, hg, hh, hn, hm, _, ht⟩
  · omega
  · refine ⟨g, cap, hv, hg, (Array.getElem?_eq_some_iff.1 hh).1, hn, by simpa [maxLen] using hm, fun i x hx => ?_⟩
    subst hv
    have hi : i < l.length := (List.getElem?_eq_some_iff.1 hx).1
    have hc : ∀ j, j < 4 → w.cell? ⟨g, i * 4 + j, none⟩ = (cellI x)[j]? := fun j hj => by
      rw [World.ownsRow.cellAt h.1 (i * 4 + j) (by omega)]
      exact cellsI_get l i x hx j hj
    exact ⟨hc 0 (by omega), hc 1 (by omega), hc 2 (by omega), hc 3 (by omega)⟩
end Go.Proofs.YtddeamecgbdajaaDoor
