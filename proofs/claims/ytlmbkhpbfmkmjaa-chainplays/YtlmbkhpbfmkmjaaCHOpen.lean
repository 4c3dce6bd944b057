/- Lists of numbers that came in. -/
import Derived.Test.YtlmbkhpbfmkmjaaCHNum
import Derived.Deep.SlicePairs
import Derived.SizedLaws
namespace Go.Proofs.Ytlmbkhpbfmkmjaa.CH
open Go.ChangeShapes Go.WideShapes Go.ChangeAt Go.RowKit Go.Deep
set_option linter.unusedVariables false
theorem own : ownKnob Try.prog.godebug = none := by kernel_rfl
theorem laidOut : laidOutB Try.prog = true := by kernel_rfl
theorem cellsI : Try.prog.cellsOf 3 = 1 := by kernel_rfl
/-- The slice that begins at a holds the numbers l. -/
def INS (w : World) (a : Option Addr) (l : List Int) : Prop :=
  l = [] ∨ ∃ b off, a = some ⟨b, off, none⟩ ∧ ∀ i x, l[i]? = some x → w.cell? ⟨b, off + i, none⟩ = some (.int .i64 x)
section
variable {H : Type} {enc : TypeId × Value → H} {W : World} {x : DataW H × List MemPlace}
theorem open_inums {fuel : Nat} {a : Option Addr} {len cap : Nat} (h : DataW.trod enc Try.prog W 0 (fun _ => true) true fuel 28 (Value.slice a len cap).cells.toList = some x) :
    ∃ l : List Int, len = l.length ∧ l.length ≤ 9223372036854775807 ∧ INS W a l ∧ ∀ r ∈ l, -9223372036854775808 ≤ r ∧ r ≤ 9223372036854775807 := by
  rcases open_ints Try.underlying28 Try.underlying3 cellsI h with ⟨hcs, _⟩ | ⟨b, n, c, zs, hcs, _, hl, hm, hz, _, hcell, hwz⟩
  · simp [Value.cells] at hcs
    obtain ⟨rfl, rfl, rfl⟩ := hcs
    exact ⟨[], rfl, by simp, .inl rfl, fun r hr => by simp at hr⟩
  · simp [Value.cells] at hcs
    obtain ⟨rfl, rfl, rfl⟩ := hcs
    simp only [if_true] at hz
    unfold maxLen at hm
    refine ⟨zs.take len, by simp; omega, by simp; omega, ?_, ?_⟩
    · by_cases h0 : len = 0
      · subst h0; exact .inl (by simp)
      · obtain ⟨blk, off, rfl, hc⟩ := Go.ints_at hcell (by omega)
        refine .inr ⟨blk, off, rfl, fun i r hr => ?_⟩
        have hi : i < len := by
          have := (List.getElem?_eq_some_iff.1 hr).1
          simp at this
          omega
        rw [hc i (by omega)]
        rw [List.getElem?_take_of_lt hi] at hr
        simp [List.getD, hr]
    · intro r hr
      have h2 := hwz r (List.mem_of_mem_take hr)
      simpa [Lit.wf, IntKind.min, IntKind.max, IntKind.signed, IntKind.bits] using h2
end
end Go.Proofs.Ytlmbkhpbfmkmjaa.CH
