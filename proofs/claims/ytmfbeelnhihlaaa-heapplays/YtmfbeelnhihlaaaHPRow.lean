/- A list of things in memory of one's own: read, written, kept. -/
import Derived.Test.YtmfbeelnhihlaaaHPBefore
import Derived.Laws.AppendOwn
import Derived.Lib.SmallJoins
import Derived.OneCell
namespace Go.Proofs.Ytmfbeelnhihlaaa.HP
open Go.RowKit Go.Joins
set_option linter.unusedVariables false
set_option linter.unusedSimpArgs false
/-- The value v owns the things L. -/
def RowE (w : World) (base : Nat) (v : Value) (L : List El) : Prop := w.ownsRow base 34 2 v L.length (L.flatMap cellsE)
/-- A thing stands at a place. -/
def ElAt (w : World) (b o : Nat) (x : El) : Prop := w.cell? ⟨b, o, none⟩ = some (.int .i64 x.1) ∧ w.cell? ⟨b, o + 1, none⟩ = some (.int .i64 x.2)
/-- A thing is laid at a place. -/
def putE (w : World) (b o : Nat) (x : El) : World := (w.setCell ⟨b, o, none⟩ (.int .i64 x.1)).setCell ⟨b, o + 1, none⟩ (.int .i64 x.2)
theorem cellsE_length (x : El) : (cellsE x).length = 2 := rfl
theorem flatE_length (L : List El) : (L.flatMap cellsE).length = L.length * 2 := by
  induction L with
  | nil => rfl
  | cons x L ih => rw [List.flatMap_cons, List.length_append, ih, cellsE_length, List.length_cons]; omega
theorem flatE_get : ∀ (L : List El) (i : Nat) (x : El), L[i]? = some x → ∀ j, j < 2 → (L.flatMap cellsE)[i * 2 + j]? = (cellsE x)[j]?
  | [], i, x, h, _, _ => by simp at h
  | y :: L, 0, x, h, j, hj => by
    simp at h
    subst h
    rw [List.flatMap_cons, List.getElem?_append_left (by rw [cellsE_length]; omega)]
    simp
  | y :: L, i + 1, x, h, j, hj => by
    rw [List.flatMap_cons, List.getElem?_append_right (by rw [cellsE_length]; omega), cellsE_length, show (i + 1) * 2 + j - 2 = i * 2 + j by omega]
    exact flatE_get L i x (by simpa using h) j hj
theorem flatE_set : ∀ (L : List El) (i : Nat) (x : El), i < L.length → (L.set i x).flatMap cellsE = ((L.flatMap cellsE).set (i * 2) (.int .i64 x.1)).set (i * 2 + 1) (.int .i64 x.2)
  | [], i, x, h => by simp at h
  | y :: L, 0, x, h => by
    simp [cellsE]
  | y :: L, i + 1, x, h => by
    have ih := flatE_set L i x (by simpa using h)
    rw [List.set_cons_succ, List.flatMap_cons, ih, List.flatMap_cons]
    rw [List.set_append_right _ _ (by rw [cellsE_length]; omega), List.set_append_right _ _ (by rw [cellsE_length]; omega)]
    simp only [cellsE_length]
    rw [show (i + 1) * 2 - 2 = i * 2 by omega, show (i + 1) * 2 + 1 - 2 = i * 2 + 1 by omega]
theorem RowE.at' {w : World} {base b n cap : Nat} {L : List El} (h : RowE w base (.slice (some ⟨b, 0, none⟩) n cap) L) {i : Nat} {x : El} (hx : L[i]? = some x) : ElAt w b (i * 2) x := by
  have hi := (List.getElem?_eq_some_iff.1 hx).1
  have hc := World.ownsRow.cells h (g := b) rfl
  have hg : ∀ j, j < 2 → w.cell? ⟨b, i * 2 + j, none⟩ = (cellsE x)[j]? := by
    intro j hj
    have hj' : (cellsE x)[j]? = some (cellsE x)[j] := List.getElem?_eq_getElem (by rw [cellsE_length]; exact hj)
    have := hc (i * 2 + j) _ ((flatE_get L i x hx j hj).trans hj')
    have hadd : (⟨b, 0, none⟩ : Addr).add (i * 2 + j) = ⟨b, i * 2 + j, none⟩ := by unfold Addr.add; split <;> simp_all
    rw [hj', ← this, hadd]
  exact ⟨hg 0 (by omega), hg 1 (by omega)⟩
theorem RowE.len {w : World} {base n cap : Nat} {a : Option Addr} {L : List El} (h : RowE w base (.slice a n cap) L) : n = L.length := by
  rcases h.2 with ⟨h1, h2⟩ | ⟨g, c, cur, h1, _⟩
  · cases h1; exact h2.symm
  · cases h1; rfl
theorem RowE.put {w : World} {base b n cap : Nat} {L : List El} (h : RowE w base (.slice (some ⟨b, 0, none⟩) n cap) L) {i : Nat} (hi : i < L.length) (x : El) : RowE (putE w b (i * 2) x) base (.slice (some ⟨b, 0, none⟩) n cap) (L.set i x) ∧ w.grownBy (putE w b (i * 2) x) (some b) := by
  obtain rfl := h.len
  have h1 := World.ownsRow.stored h (i * 2) (.int .i64 x.1)
  have h2 := World.ownsRow.stored h1.1 (i * 2 + 1) (.int .i64 x.2)
  refine ⟨?_, ⟨rfl, rfl, rfl, by simp [putE], fun k hk hne => ?_⟩⟩
  · unfold RowE putE
    rw [flatE_set L i x hi, List.length_set]
    exact h2.1
  · exact (h2.2.block k (by simpa using hk) hne).trans (h1.2.block k hk hne)
theorem RowE.below {w w' : World} {base : Nat} {v : Value} {L : List El} (h : RowE w base v L) (hb : Below w.heap.size w w') : RowE w' base v L :=
  World.ownsRow.kept h ⟨hb.os, hb.tape, hb.output, hb.size, fun k hk _ => hb.block k hk⟩ (row := none) (by cases v.ownBlock <;> simp)
theorem RowE.grown {w w' : World} {base : Nat} {v : Value} {L : List El} {row : Option Nat} (h : RowE w base v L) (hb : w.grownBy w' row) (hne : v.ownBlock = none ∨ v.ownBlock ≠ row) : RowE w' base v L := World.ownsRow.kept h hb hne
theorem RowE.free {w : World} {base b n cap : Nat} {L : List El} (h : RowE w base (.slice (some ⟨b, 0, none⟩) n cap) L) (j : Nat) : w.frozen? ⟨b, j, none⟩ = false := by
  obtain rfl := h.len
  exact World.ownsRow.frozenAt h j
theorem ElAt.below {w w' : World} {b o : Nat} {x : El} (h : ElAt w b o x) (hb : Below w.heap.size w w') : ElAt w' b o x :=
  ⟨(hb.cell (World.block_lt_of_cell? w _ h.1)).trans h.1, (hb.cell (World.block_lt_of_cell? w _ h.2)).trans h.2⟩
theorem HpAt.below {w w' : World} {g : Nat} {sv : Value} (h : HpAt w g sv) (hb : Below w.heap.size w w') : HpAt w' g sv :=
  (hb.block g (Array.getElem?_eq_some_iff.1 h).1).trans h
theorem HpAt.grown {w w' : World} {g b : Nat} {sv : Value} (h : HpAt w g sv) (hb : w.grownBy w' (some b)) (hne : g ≠ b) : HpAt w' g sv :=
  (hb.block g (Array.getElem?_eq_some_iff.1 h).1 (by simpa using hne)).trans h
/-- The last one is cut off. -/
theorem RowE.pop {w : World} {base b m cap : Nat} {L : List El} (h : RowE w base (.slice (some ⟨b, 0, none⟩) (m + 1) cap) L) : RowE w base (.slice (some ⟨b, 0, none⟩) m cap) (L.take m) := by
  have hl := h.len
  obtain ⟨x, hx⟩ : ∃ x, L[m]? = some x := ⟨_, List.getElem?_eq_getElem (by omega)⟩
  have hL : L = L.take m ++ [x] := by
    apply List.ext_getElem?
    intro i
    by_cases hi : i < m
    · rw [List.getElem?_append_left (by simp; omega), List.getElem?_take, if_pos hi]
    · by_cases hi2 : i = m
      · subst hi2
        rw [List.getElem?_append_right (by simp; omega), hx]
        simp
        rw [show i - min i L.length = 0 by omega]
        rfl
      · rw [List.getElem?_eq_none (by omega), List.getElem?_eq_none (by simp; omega)]
  have h1 : w.ownsRow base 34 2 (.slice (some ⟨b, 0, none⟩) (m + 1) cap) (m + 1) ((L.take m).flatMap cellsE ++ [x].flatMap cellsE) := by
    rw [← List.flatMap_append, ← hL]
    have := h
    unfold RowE at this
    rw [← hl] at this
    exact this
  have h2 := ownsRow_pop (by rw [flatE_length]; simp; omega) h1
  unfold RowE
  rw [show (L.take m).length = m by simp; omega]
  exact h2
theorem HpAt.turn {w : World} {g : Nat} {sv : Value} (h : HpAt w g sv) (u : Value) : HpAt (w.setCell ⟨g, 1, none⟩ u) g u := by
  unfold HpAt
  rw [heap_setCell_same w g 1 _ _ _ h]
  rfl
theorem grownBy_refl (w : World) (row : Option Nat) : w.grownBy w row := ⟨rfl, rfl, rfl, Nat.le_refl _, fun _ _ _ => rfl⟩
theorem grownBy_trans {a b c : World} {row : Option Nat} (h : a.grownBy b row) (k : b.grownBy c row) : a.grownBy c row :=
  ⟨k.os.trans h.os, k.tape.trans h.tape, k.output.trans h.output, Nat.le_trans h.size k.size, fun i hi hne => (k.block i (Nat.lt_of_lt_of_le hi h.size) hne).trans (h.block i hi hne)⟩
theorem grownBy_below {a b c : World} {row : Option Nat} (h : a.grownBy b row) (k : Below b.heap.size b c) : a.grownBy c row :=
  grownBy_trans h ⟨k.os, k.tape, k.output, k.size, fun i hi _ => k.block i hi⟩
end Go.Proofs.Ytmfbeelnhihlaaa.HP
