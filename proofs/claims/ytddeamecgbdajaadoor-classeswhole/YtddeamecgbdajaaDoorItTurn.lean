/- Appending inside a fence; what a row's turn keeps. -/
import Derived.RangeFuncNested
import Derived.RangeFuncBound
import Derived.RangeFuncCalls
import Derived.RangeFuncLeaves
import Derived.RangeFuncBox
import Derived.Shelf.Abstract
import Derived.Shelf.RegionOpen
import Derived.WalkKit
import Derived.OwnWalkIn
import Derived.TacticsInMore
import Derived.LoopNIn
import Derived.LoopIn
import Derived.Test.YtddeamecgbdajaaDoorItRow
namespace Go.Proofs.YtddeamecgbdajaaDoor
open Go.RowKit Go.Shelf
open Go.Joins
attribute [local go_sem] Oper.semAt_some
theorem wpListIn_append_run {F : Fence} {n : Nat} {P : Program} {w : World} {ops : Array Oper} {rest : List Oper} {o : Oper} {a : Act} {Q : Exit → Act → World → Prop} (hgd : o.guard = none) (s x : Operand) (t tx : TypeId)
    (ho : o.op = .call { callee := .builtin .append, args := #[s, x], argTypes := #[t, tx] }) (v y : Value) (hs : a.eval s = v) (hx : a.eval x = y) (v' : Value) (w' : World)
    (hr : (Builtin.append_ #[t, tx] o.type #[v, y]).run P w = .ok v' w') (h : wpListIn F n P ops Q rest (a.put o.dst v') w') : wpListIn F n P ops Q (o :: rest) a w := by
  refine wpListIn_plain hgd fun K hK' => ?_
  unfold Oper.wpIn
  refine ⟨?_, ?_⟩
  · simp [Oper.about, ho, resolve, Target.leads, Sem.run_pure]
  · rw [Oper.semAt_plain F _ _ (by rw [ho]; intro c hc'; cases hc')]
    simp [execOp, ho, resolve, invoke, builtin, hs, hx, hr, Result.andThen]
    exact hK' _ _ h
theorem RowTurn.keeps {T : TypeId} {base : Nat} {A w' : World} (h : RowTurn T base A w') {k : Nat} {o : Obj} (hk : A.heap[k]? = some o) (hno : ∀ c, o = .cells c T (0, 0) → c.size = 4) : w'.heap[k]? = some o := by
  have hlt := (Array.getElem?_eq_some_iff.1 hk).1
  rcases h with h | ⟨g, c, hg, hc, _, h⟩
  · exact (h.block k hlt (by simp)).trans hk
  · refine (h.block k hlt (fun e => ?_)).trans hk
    obtain rfl : k = g := by simpa using e
    rw [hg] at hk
    exact hc (hno c (Option.some.inj hk).symm)
theorem RowTurn.others {T : TypeId} {base : Nat} {A w' : World} (h : RowTurn T base A w') : KeepsOthers A w' := by
  rcases h with h | ⟨g, c, hg, hc, _, h⟩
  · exact KeepsOthers.of_grownBy h (fun j o e _ => by cases e)
  · exact KeepsOthers.of_grownBy h (fun j o e hj => by cases e; rw [hg] at hj; cases hj; rfl)
end Go.Proofs.YtddeamecgbdajaaDoor
