/- A list of spans that came in. -/
import Derived.Test.YtlnebbciefdpoaaDoorSLaid
import Derived.Deep.SlicePairs
import Derived.SizedLaws
namespace Go.Proofs.YtlnebbciefdpoaaDoor
open Go.ChangeShapes Go.WideShapes Go.ChangeAt Go.RowKit Go.Deep
section
variable {H : Type} {enc : TypeId × Value → H} {W : World} {x : DataW H × List MemPlace}
theorem open_spans {fuel : Nat} {a : Option Addr} {len cap : Nat} (h : DataW.trod enc Tryd.prog W 0 (fun _ => true) true fuel 31 (Value.slice a len cap).cells.toList = some x) :
    ∃ l : List Sp, len = l.length ∧ l.length ≤ cap ∧ cap ≤ 9223372036854775807 ∧ SPS W a l ∧ ∃ e s, x.1 = .slice e s ∧ e.length = l.length ∨ x.1 = .nil ∧ l = [] := by
  rcases open_slice_pairs Tryd.underlying31 und26 cells26 rfl rfl cellsOf21 cellsOf21 h with ⟨hcs, rfl⟩ | ⟨b, n, c, m, k, V0, V1, D0, D1, P0, P1, hcs, _, hl, hm, hmm, rfl, hel⟩
  · simp [Value.cells] at hcs
    obtain ⟨rfl, rfl, rfl⟩ := hcs
    exact ⟨[], rfl, Nat.le_refl _, by omega, .inl rfl, [], [], .inr ⟨rfl, rfl⟩⟩
  · simp [Value.cells] at hcs
    obtain ⟨rfl, rfl, rfl⟩ := hcs
    simp only [if_true] at hmm
    subst hmm
    unfold maxLen at hm
    have each : ∀ i, i < len → ∃ q : Sp, W.cell? (b.add (i * 2)) = some (.int .i32 q.lo) ∧ W.cell? (b.add (i * 2 + 1)) = some (.int .i32 q.hi) := by
      intro i hi
      obtain ⟨h0, h1, h2, h3⟩ := hel i (by omega)
      obtain ⟨n0, e0, _, _⟩ := DataW.trod_int Tryd.underlying21 h2
      obtain ⟨n1, e1, _, _⟩ := DataW.trod_int Tryd.underlying21 h3
      simp at e0 e1
      exact ⟨⟨n0, n1⟩, by rw [h0, e0], by rw [h1, e1]⟩
    haveI : Inhabited Sp := ⟨⟨0, 0⟩⟩
    obtain ⟨q, hq⟩ := choose_lt each
    refine ⟨(List.range len).map q, by simp, by simpa using hl, hm, ?_, _, _, .inl ⟨rfl, by simp⟩⟩
    by_cases h0 : len = 0
    · subst h0; exact .inl rfl
    · obtain ⟨blk, off, spot⟩ := b
      have hspot : spot = none := by simpa [Addr.add] using World.cell?_spot (hq 0 (by omega)).1
      subst hspot
      refine .inr ⟨blk, off, rfl, fun i y hy => ?_⟩
      have hi : i < len := by
        have := (List.getElem?_eq_some_iff.1 hy).1
        simpa using this
      rw [List.getElem?_map, List.getElem?_range hi] at hy
      obtain rfl : q i = y := by simpa using hy
      obtain ⟨h1, h2⟩ := hq i hi
      rw [add_plain] at h1 h2
      exact ⟨h1, by rw [Nat.add_assoc]; exact h2⟩
end
end Go.Proofs.YtlnebbciefdpoaaDoor
