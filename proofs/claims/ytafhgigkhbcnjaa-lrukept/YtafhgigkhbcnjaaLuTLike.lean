/- lru.isLikeItself: its contract: a key of this kind is. -/
import Derived.Test.YtafhgigkhbcnjaaLuTMem
import Derived.Tactics
import Derived.Tactics2
import Derived.Defers
import Derived.Recover
import Derived.Laws.Pointers
namespace Go.Proofs.Ytafhgigkhbcnjaa.LU.T
open Go.RowKit Go.Joins Go.Sort Go.Maps
set_option linter.unusedVariables false
set_option linter.unusedSimpArgs false
set_option maxRecDepth 100000
theorem idle_any (w : World) : CallsD Try.prog 36 #[] .returning w fun e u' w' => e = .returned (.tuple #[]) ∧ u' = .returning ∧ w' = w := by
  refine callsD_of_wpS Try.func36 rfl fun c₀ cs hu => ?_
  apply wpS_region
  simp [wpOpsS, go_sem, recoverD, hu, Try.ntmps36, Exit.thenS]
  cases c₀
  simp_all [bodyPostS, results, Try.results36]
theorem like_any (k : κ) (W : World) : Calls Try.prog 23 #[kv k] W fun e w' => e = .returned (.bool true) ∧ Below W.heap.size W w' := by
  have hb := (Below.refl W.heap.size W).alloc (Nat.le_refl _) (.cells #[.string k] 9)
  have hmf : ∀ (fn : Fn) (first cap : Array Value) (w : World), (Instr.makeFunc fn first cap).run Try.prog w = .ok (.func fn first cap) w := fun _ _ _ _ => rfl
  unfold kv
  go_enter_defers Try.func23, Try.ntmps23
  go_wp2
  refine leaves_cons (f := 36) (args := #[]) (by simp) (by simp [go_sem]) ?_
  refine (idle_any _).mono ?_
  rintro e u' w'' ⟨rfl, rfl, rfl⟩
  exact ⟨_, results_tmp rfl _ _ _, rfl, Below.refl _ _⟩
end Go.Proofs.Ytafhgigkhbcnjaa.LU.T
