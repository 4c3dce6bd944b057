/- Rows laid anew: append of what was there behind a new row. -/
import Derived.Test.YtafhgigkhbcnjaaLuPlMath
namespace Go.Proofs.Ytafhgigkhbcnjaa.LU.K
open Go.RowKit Go.Joins Go.Sort Go.Maps
set_option linter.unusedVariables false
set_option linter.unusedSimpArgs false
set_option maxRecDepth 100000
theorem Rw.low {w : World} {B B' : Nat} {v : Value} {l : List (κ × Int)} (h : Rw w B v l) (hb : B' ≤ B) : Rw w B' v l := by
  refine ⟨h.1, ?_⟩
  rcases h.2 with h | ⟨g, cap, cur, rfl, hb2, r⟩
  · exact .inl h
  · exact .inr ⟨g, cap, cur, rfl, by omega, r⟩
theorem RSP.below {w w' : World} {B : Nat} {a : Option Addr} {l : List (κ × Int)} (h : RSP w a l) (hb : Below B w w') (hB : w.heap.size ≤ B) : RSP w' a l := by
  rcases h with h | ⟨b, o, rfl, hc⟩
  · exact .inl h
  · refine .inr ⟨b, o, rfl, fun j u hu => ?_⟩
    have := hc j u hu
    exact (hb.cell (p := ⟨b, o + j, none⟩) (Nat.lt_of_lt_of_le (World.block_lt_of_cell? w _ this) hB)).trans this
/-- Behind a row of one's own. -/
theorem cat2 (W : World) (N : Nat) (v : Value) (L : List (κ × Int)) (a : Option Addr) (c m : Nat) (M : List (κ × Int)) (hm0 : m = M.length) (hown : Rw W N v L) (hi : RSP W a M) (hv : v.ownBlock ≠ none) (hb : N ≤ W.heap.size) (hl : L.length + M.length ≤ 1000000) :
    ∃ v' w', (Builtin.append_ #[TL, TL] TL #[v, .slice a m c]).run Try.prog W = .ok v' w' ∧ (Rw w' N v' (L ++ M) ∧ Below N W w' ∧ v'.ownBlock ≠ none) := by
  obtain ⟨v', w', h1, h2, h3, h4⟩ := run_catR W N v L a c m M hm0 hown hi hv hb hl
  refine ⟨v', w', h1, h2, (Below.refl _ W).grown h3 hb (fun k hk => ?_), h4⟩
  exact (World.ownsRow.lt hown k hk).1
theorem own_new (W : World) (L : List (κ × Int)) (hL : L.length ≤ 1000000) : Rw (W.alloc (.cells (cellsR L).toArray TR (0, 0))) W.heap.size (.slice (some ⟨W.heap.size, 0, none⟩) L.length L.length) L :=
  ⟨cellsR_length L, .inr ⟨W.heap.size, L.length, _, rfl, Nat.le_refl _, heap_alloc_new W _, Nat.le_refl _, by unfold maxLen; omega, by rw [List.size_toArray, cellsR_length], by rw [List.take_of_length_le]; rw [List.toList_toArray, cellsR_length]; exact Nat.le_refl _⟩⟩
/-- Behind a new row. -/
theorem cat1 (W : World) (L : List (κ × Int)) (a : Option Addr) (c m : Nat) (M : List (κ × Int)) (hm0 : m = M.length) (hi : RSP W a M) (hl : L.length + M.length ≤ 1000000) :
    ∃ v' w', (Builtin.append_ #[TL, TL] TL #[.slice (some ⟨W.heap.size, 0, none⟩) L.length L.length, .slice a m c]).run Try.prog (W.alloc (.cells (cellsR L).toArray TR (0, 0))) = .ok v' w' ∧ (Rw w' W.heap.size v' (L ++ M) ∧ Below W.heap.size W w' ∧ v'.ownBlock ≠ none) := by
  have hb0 := (Below.refl W.heap.size W).alloc (Nat.le_refl _) (.cells (cellsR L).toArray TR (0, 0))
  obtain ⟨v', w', h1, h2, h3, h4⟩ := cat2 (W.alloc (.cells (cellsR L).toArray TR (0, 0))) W.heap.size _ L a c m M hm0 (own_new W L (by omega)) (hi.below hb0 (Nat.le_refl _)) (by simp [Value.ownBlock]) (by simp) hl
  exact ⟨v', w', h1, h2, hb0.trans h3, h4⟩
end Go.Proofs.Ytafhgigkhbcnjaa.LU.K
