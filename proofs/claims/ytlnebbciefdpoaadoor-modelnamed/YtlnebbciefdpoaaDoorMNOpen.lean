/- A list of numbers that came in. -/
import Derived.Test.YtlnebbciefdpoaaDoorMOpen
import Derived.Test.YtlnebbciefdpoaaDoorMNamedMem
import Derived.Deep.SlicePairs
namespace Go.Proofs.YtlnebbciefdpoaaDoor
open Go.ChangeShapes Go.WideShapes Go.ChangeAt Go.RowKit Go.Deep
section
variable {H : Type} {enc : TypeId × Value → H} {W : World} {x : DataW H × List MemPlace}
theorem open_inums {fuel : Nat} {a : Option Addr} {len cap : Nat} (h : DataW.trod enc Tryd.prog W 0 (fun _ => true) true fuel 60 (Value.slice a len cap).cells.toList = some x) :
    ∃ l : List Int, len = l.length ∧ l.length ≤ 9223372036854775807 ∧ INS W a l := by
  rcases open_ints Tryd.underlying60 Tryd.underlying3 (show Tryd.prog.cellsOf 3 = 1 by kernel_rfl) h with ⟨hcs, _⟩ | ⟨b, n, c, zs, hcs, _, hl, hm, hz, _, hcell, _⟩
  · simp [Value.cells] at hcs
    obtain ⟨rfl, rfl, rfl⟩ := hcs
    exact ⟨[], rfl, by simp, .inl rfl⟩
  · simp [Value.cells] at hcs
    obtain ⟨rfl, rfl, rfl⟩ := hcs
    simp only [if_true] at hz
    unfold maxLen at hm
    refine ⟨zs.take len, by simp; omega, by simp; omega, ?_⟩
    by_cases h0 : len = 0
    · subst h0; exact .inl (by simp)
    · obtain ⟨blk, off, rfl, hc⟩ := Go.ints_at hcell (by omega)
      refine .inr ⟨blk, off, rfl, fun i r hr => ?_⟩
      have hi : i < len := by
        have := (List.getElem?_eq_some_iff.1 hr).1
        simp at this
        omega
      rw [hc i (by omega)]
      rw [List.getElem?_take_of_lt hi] at hr
      simp [List.getD, hr]
end
end Go.Proofs.YtlnebbciefdpoaaDoor
