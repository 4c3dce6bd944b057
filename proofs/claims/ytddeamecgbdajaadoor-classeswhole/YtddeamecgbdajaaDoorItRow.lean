/- Rows of items in memory: appending one. -/
import Derived.Test.YtddeamecgbdajaaDoorUItem
import Derived.Test.YtddeamecgbdajaaDoorAppRun
namespace Go.Proofs.YtddeamecgbdajaaDoor
open Go.RowKit
open Go.Joins
/-- An item's cells, and those of a row. -/
def cellI (x : It) : List Value := [.int .i64 (x.frm : Nat), .int .i64 (x.bytes : Nat), .int .i32 (x.rune : Nat), .bool x.bad]
def cellsI (l : List It) : List Value := l.flatMap cellI
theorem cellsI_length (l : List It) : (cellsI l).length = l.length * 4 := by
  induction l with
  | nil => rfl
  | cons x l ih => simp only [cellsI, List.flatMap_cons, List.length_append, List.length_cons] at ih ⊢; rw [ih]; simp [cellI]; omega
theorem cellsI_snoc (l : List It) (x : It) : cellsI (l ++ [x]) = cellsI l ++ cellI x := by simp [cellsI]
theorem cellI_one (x : It) : ∀ v ∈ cellI x, v.oneCell' = true := by
  intro v hv
  simp [cellI] at hv
  rcases hv with rfl | rfl | rfl | rfl <;> rfl
theorem cellI_cells (w : World) (b : Nat) (x : It) (T : TypeId) (fr : Nat × Nat) (h : w.heap[b]? = some (.cells (cellI x).toArray T fr)) : ∀ j u, (cellI x)[j]? = some u → w.cell? ((⟨b, 0, none⟩ : Addr).add j) = some u := by
  intro j u hu
  rw [cell_add, Nat.zero_add, cell_of_block h]
  simpa using hu
/-- The value v owns the items l: rows of type T (slices S). -/
def OwnI (T : TypeId) (w : World) (base : Nat) (v : Value) (l : List It) : Prop := w.ownsRow base T 4 v l.length (cellsI l) ∧ (v = .slice none 0 0 ↔ l = [])
theorem OwnI.nil (T : TypeId) (w : World) (base : Nat) : OwnI T w base (.slice none 0 0) [] := ⟨World.ownsRow_nil w base T 4, by simp⟩
theorem OwnI.below {T : TypeId} {w w' : World} {base : Nat} {v : Value} {l : List It} {B : Nat} (h : OwnI T w base v l) (hb : Below B w w') (hB : w.heap.size ≤ B) : OwnI T w' base v l := by
  refine ⟨⟨h.1.1, ?_⟩, h.2⟩
  rcases h.1.2 with h0 | ⟨g, cap, cur, hv, hg, hh, r⟩
  · exact .inl h0
  · refine .inr ⟨g, cap, cur, hv, hg, ?_, r⟩
    rw [hb.block g (Nat.lt_of_lt_of_le (Array.getElem?_eq_some_iff.1 hh).1 hB)]
    exact hh
/-- What an append to a row writes: nothing that lay; or the row alone, which has room for two at least. -/
def RowTurn (T : TypeId) (base : Nat) (W w' : World) : Prop := W.grownBy w' none ∨ ∃ g c, W.heap[g]? = some (.cells c T (0, 0)) ∧ c.size ≠ 4 ∧ base ≤ g ∧ W.grownBy w' (some g)
theorem RowTurn.below {T : TypeId} {base : Nat} {W w' : World} (h : RowTurn T base W w') (hb : base ≤ W.heap.size) : Below base W w' := by
  rcases h with h | ⟨g, c, _, _, hg, h⟩
  · exact (Below.refl base W).grown h hb (fun k hk => by cases hk)
  · exact (Below.refl base W).grown h hb (fun k hk => by cases hk; exact hg)
theorem run_own_it (S T : TypeId) (i0 : TypeInfo) (z : Value) (hS : Tryd.prog.underlying S = some (.slice T)) (hi : Tryd.prog.info? T = some i0) (hz0 : i0.zero = some z) (hz1 : i0.size = 4) (hz2 : i0.bytes = 24) (hzc : z.cells.size = 4)
    (W : World) (base : Nat) (v : Value) (l : List It) (x : It) (b cap : Nat) (hown : OwnI T W base v l) (hx : W.heap[b]? = some (.cells (cellI x).toArray T (0, 0))) (hb : base ≤ W.heap.size) (hsz : (l.length + 1) * 24 ≤ 140737488355328) :
    ∃ v' w', (Builtin.append_ #[S, S] S #[v, .slice (some ⟨b, 0, none⟩) 1 cap]).run Tryd.prog W = .ok v' w' ∧ OwnI T w' base v' (l ++ [x]) ∧ RowTurn T base W w' := by
  have hc := cellI_cells W b x T (0, 0) hx
  have hl4 : (cellI x).length = 1 * 4 := rfl
  have hend : ∀ (v' : Value) (w' : World), w'.ownsRow base T 4 v' (l.length + 1) (cellsI l ++ cellI x) → OwnI T w' base v' (l ++ [x]) := by
    intro v' w' h
    refine ⟨by rw [List.length_append, cellsI_snoc]; exact h, ?_⟩
    obtain ⟨g, cap, rfl⟩ := ownsRow_form h (by omega)
    simp
  rcases hown.1.2 with ⟨rfl, h0⟩ | ⟨g, cp, cur, rfl, hg, hh, hn, hm, hcs, ht⟩
  · obtain ⟨v', w', h1, h2, h3, _⟩ := run_append_own (P := Tryd.prog) W base S S T i0 z 4 24 hS hi hz0 hz1 hz2 hzc (by decide) (.slice none 0 0) l.length (cellsI l) hown.1 ⟨b, 0, none⟩ 1 cap (cellI x) hl4 hc (cellI_one x) (by unfold maxLen; omega) hsz hb
    exact ⟨v', w', h1, hend v' w' h2, .inl h3⟩
  · by_cases hroom : l.length < cp
    · obtain ⟨v', w', h1, h2, h3, _⟩ := run_append_own (P := Tryd.prog) W base S S T i0 z 4 24 hS hi hz0 hz1 hz2 hzc (by decide) (.slice (some ⟨g, 0, none⟩) l.length cp) l.length (cellsI l) hown.1 ⟨b, 0, none⟩ 1 cap (cellI x) hl4 hc (cellI_one x) (by unfold maxLen; omega) hsz hb
      refine ⟨v', w', h1, hend v' w' h2, .inr ⟨g, cur, hh, ?_, hg, h3⟩⟩
      have hl0 : l ≠ [] := fun e => by have := hown.2.2 e; cases this
      have := List.length_pos_iff.2 hl0
      omega
    · obtain ⟨v', w', h1, h2, h3⟩ := run_append_arg_grows (P := Tryd.prog) W S S T i0 z 4 24 hS hi hz0 hz1 hz2 hzc (by decide) ⟨g, 0, none⟩ l.length cp (cellsI l) (cellsI_length l) (fun j u hu => by
        have hj : j < l.length * 4 := by
          rw [← cellsI_length]
          exact (List.getElem?_eq_some_iff.1 hu).1
        rw [cell_add, Nat.zero_add, World.ownsRow.cellAt hown.1 j hj, hu]) ⟨b, 0, none⟩ 1 cap (cellI x) hl4 hc (by omega) (by unfold maxLen; omega) hsz
      exact ⟨v', w', h1, hend v' w' (ownsRow_le h2 hb), .inl h3⟩
end Go.Proofs.YtddeamecgbdajaaDoor
