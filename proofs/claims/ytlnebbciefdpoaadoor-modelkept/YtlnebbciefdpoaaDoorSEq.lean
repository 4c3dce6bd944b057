/- Two spans held against each other. -/
import Derived.Test.YtlnebbciefdpoaaDoorSView
import Derived.Laws.StructEq
namespace Go.Proofs.YtlnebbciefdpoaaDoor
open Go.RowKit
def fLo : Field := Field.mk "Lo" 21 0 false "" "" 0
def fHi : Field := Field.mk "Hi" 21 1 false "" "" 4
theorem fields26 : Tryd.prog.fieldsOf 30 = #[fLo, fHi] := by kernel_rfl
theorem und26 : Tryd.prog.underlying 30 = some (.struct #[fLo, fHi]) := by kernel_rfl
theorem held26 : Tryd.prog.stoodInHeld 30 = false := by kernel_rfl
def spEq (x y : Sp) : Bool := x.lo == y.lo && x.hi == y.hi
theorem equal_sp (a b c d : Int) (W : World) : (Op.equalIn 10000 30 (.agg #[.int .i32 a, .int .i32 b]) (.agg #[.int .i32 c, .int .i32 d])).run Tryd.prog W = .ok (a == c && b == d) W := by
  rw [run_equalIn_agg W 9999 30 _ _ (by rw [fields26]; exact und26) held26, fields26]
  simp [go_sem, Op.eqFields, fLo, fHi, part]
  by_cases h1 : a = c
  · by_cases h2 : b = d
    · simp [h1, h2]
    · simp [h1, h2]
  · simp [h1]
theorem eql_sp (x y : Sp) (v : Bool) (h : spEq x y = v) (W : World) : (binOp BinOp.eql 30 (.agg #[.int .i32 x.lo, .int .i32 x.hi]) (.agg #[.int .i32 y.lo, .int .i32 y.hi])).run Tryd.prog W = .ok (.bool v) W := by
  rw [run_eql_struct, equal_sp, ← h]
  rfl
theorem neq_sp (x y : Sp) (v : Bool) (h : (!spEq x y) = v) (W : World) : (binOp BinOp.neq 30 (.agg #[.int .i32 x.lo, .int .i32 x.hi]) (.agg #[.int .i32 y.lo, .int .i32 y.hi])).run Tryd.prog W = .ok (.bool v) W := by
  rw [run_neq_struct, equal_sp, ← h]
  rfl
theorem eqIn_sp (x y : Sp) (v : Bool) (h : spEq x y = v) (W : World) : (Op.equalIn 10000 30 (.agg #[.int .i32 x.lo, .int .i32 x.hi]) (.agg #[.int .i32 y.lo, .int .i32 y.hi])).run Tryd.prog W = .ok v W := by
  rw [equal_sp, ← h]
  rfl
/-- The guard of a comparison of structs: nothing to panic over. -/
theorem guard26 : Tryd.prog.eqGuardType Tryd.prog.depth 30 = false := by kernel_rfl
theorem spEq_self (x : Sp) : spEq x x = true := by simp [spEq]
/-- A rune and a part of all runes. -/
theorem com_one (r : Int) (p : Sp) : spEq (comL ⟨r, r⟩ p) ⟨r, r⟩ = (decide (p.lo ≤ r) && decide (r ≤ p.hi)) := by
  unfold spEq comL
  by_cases h1 : p.lo ≤ r
  · by_cases h2 : r ≤ p.hi
    · have e1 : max r p.lo = r := by omega
      have e2 : min r p.hi = r := by omega
      rw [if_neg (by simp only; omega)]
      simp [e1, e2, h1, h2]
    · rw [if_pos (by simp only; omega)]
      simp [h2]
      omega
  · rw [if_pos (by simp only; omega)]
    simp [h1]
    omega
end Go.Proofs.YtlnebbciefdpoaaDoor
