/- lru.isLikeItself: its contract: a key of this kind is. -/
import Derived.Test.YtafhgigkhbcnjaaLuKMem
import Derived.Tactics
import Derived.Tactics2
import Derived.Defers
import Derived.Recover
import Derived.Laws.Pointers
namespace Go.Proofs.Ytafhgigkhbcnjaa.LU.K
open Go.RowKit Go.Joins Go.Sort Go.Maps
set_option linter.unusedVariables false
set_option linter.unusedSimpArgs false
set_option maxRecDepth 100000
theorem idle_any (w : World) : CallsD Try.prog 37 #[] .returning w fun e u' w' => e = .returned (.tuple #[]) ∧ u' = .returning ∧ w' = w := by
  refine callsD_of_wpS Try.func37 rfl fun c₀ cs hu => ?_
  apply wpS_region
  simp [wpOpsS, go_sem, recoverD, hu, Try.ntmps37, Exit.thenS]
  cases c₀
  simp_all [bodyPostS, results, Try.results37]
def fA : Field := Field.mk "A" 3 0 false "" "" 0
def fB : Field := Field.mk "B" 3 1 false "" "" 8
theorem fieldsK : Try.prog.fieldsOf 36 = #[fA, fB] := by kernel_rfl
theorem undK : Try.prog.underlying 36 = some (.struct #[fA, fB]) := by kernel_rfl
theorem heldK : Try.prog.stoodInHeld 36 = false := by kernel_rfl
def spEq (x y : κ) : Bool := x.1 == y.1 && x.2 == y.2
theorem equal_sp (a b c d : Int) (W : World) : (Op.equalIn 10000 36 (.agg #[.int .i64 a, .int .i64 b]) (.agg #[.int .i64 c, .int .i64 d])).run Try.prog W = .ok (a == c && b == d) W := by
  rw [run_equalIn_agg W 9999 36 _ _ (by rw [fieldsK]; exact undK) heldK, fieldsK]
  simp [go_sem, Op.eqFields, fA, fB, part]
  by_cases h1 : a = c
  · by_cases h2 : b = d
    · simp [h1, h2]
    · simp [h1, h2]
  · simp [h1]
theorem eql_sp (x y : κ) (v : Bool) (h : spEq x y = v) (W : World) : (binOp BinOp.eql 36 (.agg #[.int .i64 x.1, .int .i64 x.2]) (.agg #[.int .i64 y.1, .int .i64 y.2])).run Try.prog W = .ok (.bool v) W := by
  rw [run_eql_struct, equal_sp, ← h]
  rfl
theorem like_any (k : κ) (W : World) : Calls Try.prog 30 #[kv k] W fun e w' => e = .returned (.bool true) ∧ Below W.heap.size W w' := by
  have hb := (Below.refl W.heap.size W).alloc (Nat.le_refl _) (.cells #[.int .i64 k.1, .int .i64 k.2] 36)
  have hmf : ∀ (fn : Fn) (first cap : Array Value) (w : World), (Instr.makeFunc fn first cap).run Try.prog w = .ok (.func fn first cap) w := fun _ _ _ _ => rfl
  unfold kv
  have HE := eql_sp k k true (by simp [spEq])
  obtain ⟨x, y⟩ := k
  go_enter_defers Try.func30, Try.ntmps30
  go_wp2
  refine leaves_cons (f := 37) (args := #[]) (by simp) (by simp [go_sem]) ?_
  refine (idle_any _).mono ?_
  rintro e u' w'' ⟨rfl, rfl, rfl⟩
  exact ⟨_, results_tmp rfl _ _ _, rfl, hb⟩
end Go.Proofs.Ytafhgigkhbcnjaa.LU.K
