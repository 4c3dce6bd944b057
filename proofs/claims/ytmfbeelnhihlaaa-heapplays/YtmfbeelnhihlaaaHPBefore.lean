/- heap's asking for the order of two things: its contract. -/
import Derived.Test.YtmfbeelnhihlaaaHMath
import Derived.WalkKit
import Derived.ProofKit
import Derived.Below
import Derived.OpenShut
import Derived.WalkSpells
import Derived.WalkLawsBesides
import Derived.Defers
import Derived.Recover
import Derived.Deep.QuietTactic
import Derived.BigQuiet
import Derived.Laws.StructEq
import Derived.Laws.OwnMore
import Derived.Laws.EntriesVeiled
namespace Go.Proofs.Ytmfbeelnhihlaaa.HP
open Go.RowKit
set_option linter.unusedVariables false
set_option linter.unusedSimpArgs false
set_option maxRecDepth 100000
abbrev El := Int × Int
def keyE (x : El) : Int := x.1
/-- A thing as a value. -/
def valE (x : El) : Value := .agg #[.int .i64 x.1, .int .i64 x.2]
/-- A thing's cells. -/
def cellsE (x : El) : List Value := [.int .i64 x.1, .int .i64 x.2]
def lessV : Value := .func (.func 15) #[] #[]
/-- The heap's own block. -/
def HpAt (w : World) (g : Nat) (sv : Value) : Prop := w.heap[g]? = some (.cells #[lessV, sv] 53 (0, 0))
theorem calls_named {P : Program} {f : FuncId} {args : Array Value} {w : World} {R : Ending → World → Prop} (h : ∀ X, X = w → Calls P f args X R) : Calls P f args w R := h w rfl
theorem cell_alloc_h {w : World} {a : Addr} {v : Value} (h : w.cell? a = some v) (o : Obj) : (w.alloc o).cell? a = some v :=
  (((Below.refl w.heap.size w).alloc (Nat.le_refl _) o).cell (World.block_lt_of_cell? w _ h)).trans h
theorem frozen_alloc_h {w : World} {a : Addr} {v : Value} (h : w.cell? a = some v) {z : Bool} (hf : w.frozen? a = z) (o : Obj) : (w.alloc o).frozen? a = z :=
  (((Below.refl w.heap.size w).alloc (Nat.le_refl _) o).frozen (World.block_lt_of_cell? w _ h)).trans hf
theorem less_any (x y : El) (W : World) :
    Calls Try.prog 15 #[valE x, valE y] W fun e w' => e = .returned (.bool (decide (keyE x < keyE y))) ∧ Below W.heap.size W w' := by
  obtain ⟨b, hb⟩ : ∃ b, b = decide (keyE x < keyE y) := ⟨_, rfl⟩
  rw [← hb]
  unfold valE
  unfold keyE at hb
  by_cases hlt : x.1 < y.1
  · have hb1 : b = true := by rw [hb]; simpa using hlt
    clear hb
    subst hb1
    go_enter Try.func15, Try.ntmps15
    go_wp2
    go_ret
    refine ⟨rfl, ?_⟩
    exact ((Below.refl _ _).alloc (Nat.le_refl _) _).alloc (by simp) _
  · have hb1 : b = false := by rw [hb]; simpa using hlt
    clear hb
    subst hb1
    go_enter Try.func15, Try.ntmps15
    go_wp2
    go_ret
    refine ⟨rfl, ?_⟩
    exact ((Below.refl _ _).alloc (Nat.le_refl _) _).alloc (by simp) _
/-- The deferred closure: the order is laid back, nothing is to recover. -/
theorem after_any (p g q : Nat) (sv : Value) (W : World) (h1 : W.cell? ⟨p, 0, none⟩ = some lessV) (h3 : W.cell? ⟨q, 0, none⟩ = some (.pointer (some ⟨g, 0, none⟩))) {z : Value} (h4 : W.cell? ⟨g, 0, none⟩ = some z) (h5 : W.frozen? ⟨g, 0, none⟩ = false) :
    CallsD Try.prog 34 #[.pointer (some ⟨p, 0, none⟩), .pointer (some ⟨q, 0, none⟩)] .returning W fun e u' w' => e = .returned (.tuple #[]) ∧ u' = .returning ∧ w' = W.setCell ⟨g, 0, none⟩ lessV := by
  refine callsD_of_wpS Try.func34 rfl fun c₀ cs hu => ?_
  unfold lessV at h1 ⊢
  apply wpS_seq
  refine wpS_of_wp ?_
  simp only [Try.ntmps34]
  go_wp2
  simp only [Exit.thenS]
  apply wpS_region
  cases c₀
  simp_all [wpOpsS, go_sem, recoverD, bodyPostS, results, Try.results34]
set_option maxHeartbeats 1000000 in
theorem before_any (g : Nat) (sv : Value) (x y : El) (W : World) (hg : HpAt W g sv) :
    Calls Try.prog 32 #[.pointer (some ⟨g, 0, none⟩), valE x, valE y] W fun e w' => e = .returned (.bool (decide (keyE x < keyE y))) ∧ Below W.heap.size W w' := by
  have c0 : W.cell? ⟨g, 0, none⟩ = some lessV := by rw [cell_of_row W g 0 _ _ _ hg]; rfl
  have f0 : W.frozen? ⟨g, 0, none⟩ = false := frozen_of_row W g 0 _ _ hg
  have hmf : ∀ (fn : Fn) (first cap : Array Value) (w : World), (Instr.makeFunc fn first cap).run Try.prog w = .ok (.func fn first cap) w := fun _ _ _ _ => rfl
  unfold lessV at c0
  have hq : ∀ w : World, (binOp BinOp.eql 37 (.func (.func 15) #[] #[]) .nilFunc).run Try.prog w = .ok (.bool false) w := fun _ => by kernel_rfl
  have ca1 : ∀ o1, (W.alloc o1).cell? ⟨g, 0, none⟩ = some (.func (.func 15) #[] #[]) := fun o1 => cell_alloc_h c0 o1
  have fa1 : ∀ o1, (W.alloc o1).frozen? ⟨g, 0, none⟩ = false := fun o1 => frozen_alloc_h c0 f0 o1
  have ca2 : ∀ o1 o2, ((W.alloc o1).alloc o2).cell? ⟨g, 0, none⟩ = some (.func (.func 15) #[] #[]) := fun o1 o2 => cell_alloc_h (ca1 o1) o2
  have fa2 : ∀ o1 o2, ((W.alloc o1).alloc o2).frozen? ⟨g, 0, none⟩ = false := fun o1 o2 => frozen_alloc_h (ca1 o1) (fa1 o1) o2
  have ca3 : ∀ o1 o2 o3, (((W.alloc o1).alloc o2).alloc o3).cell? ⟨g, 0, none⟩ = some (.func (.func 15) #[] #[]) := fun o1 o2 o3 => cell_alloc_h (ca2 o1 o2) o3
  have fa3 : ∀ o1 o2 o3, (((W.alloc o1).alloc o2).alloc o3).frozen? ⟨g, 0, none⟩ = false := fun o1 o2 o3 => frozen_alloc_h (ca2 o1 o2) (fa2 o1 o2) o3
  have ca4 : ∀ o1 o2 o3 o4, ((((W.alloc o1).alloc o2).alloc o3).alloc o4).cell? ⟨g, 0, none⟩ = some (.func (.func 15) #[] #[]) := fun o1 o2 o3 o4 => cell_alloc_h (ca3 o1 o2 o3) o4
  have fa4 : ∀ o1 o2 o3 o4, ((((W.alloc o1).alloc o2).alloc o3).alloc o4).frozen? ⟨g, 0, none⟩ = false := fun o1 o2 o3 o4 => frozen_alloc_h (ca3 o1 o2 o3) (fa3 o1 o2 o3) o4
  have hlt : g < W.heap.size := World.block_lt_of_cell? W _ c0
  have n0 : ¬ g = W.heap.size := by omega
  have n1 : ¬ g = W.heap.size + 1 := by omega
  have n2 : ¬ g = W.heap.size + 2 := by omega
  have n3 : ¬ g = W.heap.size + 3 := by omega
  have m0 : ¬ W.heap.size = g := by omega
  have m1 : ¬ W.heap.size + 1 = g := by omega
  have m2 : ¬ W.heap.size + 2 = g := by omega
  have m3 : ¬ W.heap.size + 3 = g := by omega
  unfold valE
  go_enter_defers Try.func32, Try.ntmps32
  go_wp2_with fail
  refine calls_named fun X hX => ?_
  refine (less_any x y _).mono ?_
  rintro e w1 ⟨rfl, hb1⟩
  go_wp2
  have hs : X.heap.size = W.heap.size + 4 := by rw [hX]; simp
  have hXh : X.cell? ⟨W.heap.size, 0, none⟩ = some (.pointer (some ⟨g, 0, none⟩)) := by rw [hX]; simp [go_sem, m0]
  have hXl : X.cell? ⟨W.heap.size + 1 + 1 + 1, 0, none⟩ = some lessV := by rw [hX]; simp [go_sem, lessV, m0, m1, m2, m3]
  have hXg : X.heap[g]? = some (.cells #[.nilFunc, sv] 53 (0, 0)) := by
    rw [hX]
    rw [heap_setCell_same _ g 0 _ _ _ (by rw [Below.heap_alloc _ _ _ (by simp; omega), Below.heap_alloc _ _ _ (by simp; omega), Below.heap_alloc _ _ _ (by simp; omega), Below.heap_alloc _ _ _ hlt]; exact hg)]
    rfl
  have hXo : ∀ k, k < W.heap.size → k ≠ g → X.heap[k]? = W.heap[k]? := by
    intro k hk hkg
    rw [hX, heap_setCell_other _ ⟨g, 0, none⟩ k _ hkg, Below.heap_alloc _ _ _ (by simp; omega), Below.heap_alloc _ _ _ (by simp; omega), Below.heap_alloc _ _ _ (by simp; omega), Below.heap_alloc _ _ _ hk]
  have hXs : X.os = W.os ∧ X.tape = W.tape ∧ X.output = W.output := by rw [hX]; exact ⟨rfl, rfl, rfl⟩
  clear hX
  have h1g : w1.heap[g]? = some (.cells #[.nilFunc, sv] 53 (0, 0)) := by rw [hb1.block g (by omega)]; exact hXg
  refine leaves_cons (f := 34) (args := #[.pointer (some ⟨W.heap.size + 1 + 1 + 1, 0, none⟩), .pointer (some ⟨W.heap.size, 0, none⟩)]) (by simp) (by simp [go_sem]) ?_
  refine (after_any _ g _ sv w1 (z := .nilFunc) ?_ ?_ ?_ ?_).mono ?_
  · rw [hb1.cell (by show W.heap.size + 1 + 1 + 1 < X.heap.size; omega)]; exact hXl
  · rw [hb1.cell (by show W.heap.size < X.heap.size; omega)]; exact hXh
  · rw [cell_of_row w1 g 0 _ _ _ h1g]; rfl
  · exact frozen_of_row w1 g 0 _ _ h1g
  rintro e u' w2 ⟨rfl, rfl, rfl⟩
  refine ⟨_, results_tmp rfl _ _ _, rfl, ?_⟩
  refine ⟨hb1.os.trans hXs.1, hb1.tape.trans hXs.2.1, hb1.output.trans hXs.2.2, ?_, ?_⟩
  · have := hb1.size
    rw [show (w1.setCell ⟨g, 0, none⟩ lessV).heap.size = w1.heap.size by simp]
    omega
  · intro k hk
    by_cases hkg : k = g
    · subst hkg
      rw [heap_setCell_same w1 k 0 _ _ _ h1g, hg]
      rfl
    · rw [heap_setCell_other w1 ⟨g, 0, none⟩ k _ hkg, hb1.block k (by omega)]
      exact hXo k hk hkg
end Go.Proofs.Ytmfbeelnhihlaaa.HP
