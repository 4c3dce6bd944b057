/- Lists of pairs, of numbers that came in. -/
import Derived.Test.YtmfbeelnhihlaaaHPPlays
import Derived.Deep.SlicePairs
import Derived.SizedLaws
namespace Go.Proofs.Ytmfbeelnhihlaaa.HP
open Go.ChangeShapes Go.WideShapes Go.ChangeAt Go.RowKit Go.Deep
set_option linter.unusedVariables false
theorem own : ownKnob Try.prog.godebug = none := by kernel_rfl
theorem laidOut : laidOutB Try.prog = true := by kernel_rfl
theorem cellsP : Try.prog.cellsOf 34 = 2 := by kernel_rfl
theorem cellsI : Try.prog.cellsOf 3 = 1 := by kernel_rfl
section
variable {H : Type} {enc : TypeId × Value → H} {W : World} {x : DataW H × List MemPlace}
theorem open_pairs {fuel : Nat} {a : Option Addr} {len cap : Nat} (h : DataW.trod enc Try.prog W 0 (fun _ => true) true fuel 30 (Value.slice a len cap).cells.toList = some x) :
    ∃ l : List El, len = l.length ∧ l.length ≤ cap ∧ cap ≤ 9223372036854775807 ∧ SPS W a l := by
  rcases open_slice_pairs Try.underlying30 und26 cellsP rfl rfl cellsI cellsI h with ⟨hcs, rfl⟩ | ⟨b, n, c, m, k, V0, V1, D0, D1, P0, P1, hcs, _, hl, hm, hmm, rfl, hel⟩
  · simp [Value.cells] at hcs
    obtain ⟨rfl, rfl, rfl⟩ := hcs
    exact ⟨[], rfl, Nat.le_refl _, by omega, .inl rfl⟩
  · simp [Value.cells] at hcs
    obtain ⟨rfl, rfl, rfl⟩ := hcs
    simp only [if_true] at hmm
    subst hmm
    unfold maxLen at hm
    have each : ∀ i, i < len → ∃ q : El, W.cell? (b.add (i * 2)) = some (.int .i64 q.1) ∧ W.cell? (b.add (i * 2 + 1)) = some (.int .i64 q.2) := by
      intro i hi
      obtain ⟨h0, h1, h2, h3⟩ := hel i (by omega)
      obtain ⟨n0, e0, _, _⟩ := DataW.trod_int Try.underlying3 h2
      obtain ⟨n1, e1, _, _⟩ := DataW.trod_int Try.underlying3 h3
      simp at e0 e1
      exact ⟨⟨n0, n1⟩, by rw [h0, e0], by rw [h1, e1]⟩
    haveI : Inhabited El := ⟨⟨0, 0⟩⟩
    obtain ⟨q, hq⟩ := choose_lt each
    refine ⟨(List.range len).map q, by simp, by simpa using hl, hm, ?_⟩
    by_cases h0 : len = 0
    · subst h0; exact .inl rfl
    · obtain ⟨blk, off, spot⟩ := b
      have hspot : spot = none := by simpa [Addr.add] using World.cell?_spot (hq 0 (by omega)).1
      subst hspot
      refine .inr ⟨blk, off, rfl, fun i y hy => ?_⟩
      have hi : i < len := by
        have := (List.getElem?_eq_some_iff.1 hy).1
        simpa using this
      rw [List.getElem?_map, List.getElem?_range hi] at hy
      obtain rfl : q i = y := by simpa using hy
      obtain ⟨h1, h2⟩ := hq i hi
      rw [add_plain] at h1 h2
      exact ⟨h1, by rw [Nat.add_assoc]; exact h2⟩
theorem open_inums {fuel : Nat} {a : Option Addr} {len cap : Nat} (h : DataW.trod enc Try.prog W 0 (fun _ => true) true fuel 31 (Value.slice a len cap).cells.toList = some x) :
    ∃ l : List Int, len = l.length ∧ l.length ≤ 9223372036854775807 ∧ INS W a l ∧ ∀ r ∈ l, -9223372036854775808 ≤ r ∧ r ≤ 9223372036854775807 := by
  rcases open_ints Try.underlying31 Try.underlying3 cellsI h with ⟨hcs, _⟩ | ⟨b, n, c, zs, hcs, _, hl, hm, hz, _, hcell, hwz⟩
  · simp [Value.cells] at hcs
    obtain ⟨rfl, rfl, rfl⟩ := hcs
    exact ⟨[], rfl, by simp, .inl rfl, fun r hr => by simp at hr⟩
  · simp [Value.cells] at hcs
    obtain ⟨rfl, rfl, rfl⟩ := hcs
    simp only [if_true] at hz
    unfold maxLen at hm
    refine ⟨zs.take len, by simp; omega, by simp; omega, ?_, ?_⟩
    · by_cases h0 : len = 0
      · subst h0; exact .inl (by simp)
      · obtain ⟨blk, off, rfl, hc⟩ := Go.ints_at hcell (by omega)
        refine .inr ⟨blk, off, rfl, fun i r hr => ?_⟩
        have hi : i < len := by
          have := (List.getElem?_eq_some_iff.1 hr).1
          simp at this
          omega
        rw [hc i (by omega)]
        rw [List.getElem?_take_of_lt hi] at hr
        simp [List.getD, hr]
    · intro r hr
      have h2 := hwz r (List.mem_of_mem_take hr)
      simpa [Lit.wf, IntKind.min, IntKind.max, IntKind.signed, IntKind.bits] using h2
end
end Go.Proofs.Ytmfbeelnhihlaaa.HP
