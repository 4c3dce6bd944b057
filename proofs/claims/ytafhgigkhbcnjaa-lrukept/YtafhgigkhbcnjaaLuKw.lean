/- Keys that a map takes. -/
import Derived.Test.YtafhgigkhbcnjaaLuKSame
namespace Go.Proofs.Ytafhgigkhbcnjaa.LU.K
open Go.RowKit Go.Joins Go.Sort Go.Maps
theorem typeK : Try.prog.keyType 36 = true := by kernel_rfl
theorem cellsK1 : Try.prog.cellsOf 36 = 2 := by kernel_rfl
theorem cellsI1 : Try.prog.cellsOf 3 = 1 := by kernel_rfl
theorem sizeT : ∃ m, Try.prog.types.size = m + 1 := ⟨_, rfl⟩
theorem kw_of (a b : Int) (wa : (Lit.int .i64 a).wf = true) (wb : (Lit.int .i64 b).wf = true) : Kw (a, b) := by
  unfold Kw kv
  obtain ⟨m, hm⟩ := sizeT
  unfold keyOf
  simp only [undK]
  rw [if_pos (by simp [typeK, Value.formed, cellsK1]), hm]
  unfold Program.keyLits
  simp only [undK, Value.cells]
  rw [if_pos (by simp [cellsK1, fA, fB])]
  simp [fA, fB, Program.keyLits, cellsI1, Try.underlying3, wa, wb]
end Go.Proofs.Ytafhgigkhbcnjaa.LU.K
