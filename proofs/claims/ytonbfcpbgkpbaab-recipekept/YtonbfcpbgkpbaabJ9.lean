import Derived.Test.YtonbfcpbgkpbaabJ8
import Derived.Test.YtonbfcpbgkpbaabJ2
import Derived.RangeFuncNested
import Derived.RangeFuncBound
import Derived.RangeFuncCalls
import Derived.RangeFuncLeaves
import Derived.RangeFuncBox
import Derived.Shelf.Abstract
import Derived.Shelf.RegionOpen
import Derived.WalkKit
import Derived.OwnWalkIn
import Derived.TacticsInMore
import Derived.LoopNIn
import Derived.LoopIn
import Derived.Test.YtonbfcpbgkpbaabJ7
import Derived.OrdersHeld
import Derived.Laws.MakeOwn
section
/- Rows of items in memory: appending one. -/
namespace Go.Proofs.Ytonbfcpbgkpbaab
open Go.RowKit
open Go.Joins
/-- An item's cells, and those of a row. -/
def cellI (x : It) : List Value := [.int .i64 (x.frm : Nat), .int .i64 (x.bytes : Nat), .int .i32 (x.rune : Nat), .bool x.bad]
def cellsI (l : List It) : List Value := l.flatMap cellI
theorem cellsI_length (l : List It) : (cellsI l).length = l.length * 4 := by
  induction l with
  | nil => rfl
  | cons x l ih => simp only [cellsI, List.flatMap_cons, List.length_append, List.length_cons] at ih ⊢; rw [ih]; simp [cellI]; omega
theorem cellsI_snoc (l : List It) (x : It) : cellsI (l ++ [x]) = cellsI l ++ cellI x := by simp [cellsI]
theorem cellI_one (x : It) : ∀ v ∈ cellI x, v.oneCell' = true := by
  intro v hv
  simp [cellI] at hv
  rcases hv with rfl | rfl | rfl | rfl <;> rfl
theorem cellI_cells (w : World) (b : Nat) (x : It) (T : TypeId) (fr : Nat × Nat) (h : w.heap[b]? = some (.cells (cellI x).toArray T fr)) : ∀ j u, (cellI x)[j]? = some u → w.cell? ((⟨b, 0, none⟩ : Addr).add j) = some u := by
  intro j u hu
  rw [cell_add, Nat.zero_add, cell_of_block h]
  simpa using hu
/-- The value v owns the items l: rows of type T (slices S). -/
def OwnI (T : TypeId) (w : World) (base : Nat) (v : Value) (l : List It) : Prop := w.ownsRow base T 4 v l.length (cellsI l) ∧ (v = .slice none 0 0 ↔ l = [])
theorem OwnI.nil (T : TypeId) (w : World) (base : Nat) : OwnI T w base (.slice none 0 0) [] := ⟨World.ownsRow_nil w base T 4, by simp⟩
theorem OwnI.below {T : TypeId} {w w' : World} {base : Nat} {v : Value} {l : List It} {B : Nat} (h : OwnI T w base v l) (hb : Below B w w') (hB : w.heap.size ≤ B) : OwnI T w' base v l := by
  refine ⟨⟨h.1.1, ?_⟩, h.2⟩
  rcases h.1.2 with h0 | ⟨g, cap, cur, hv, hg, hh, r⟩
  · exact .inl h0
  · refine .inr ⟨g, cap, cur, hv, hg, ?_, r⟩
    rw [hb.block g (Nat.lt_of_lt_of_le (Array.getElem?_eq_some_iff.1 hh).1 hB)]
    exact hh
/-- What an append to a row writes: nothing that lay; or the row alone, which has room for two at least. -/
def RowTurn (T : TypeId) (base : Nat) (W w' : World) : Prop := W.grownBy w' none ∨ ∃ g c, W.heap[g]? = some (.cells c T (0, 0)) ∧ c.size ≠ 4 ∧ base ≤ g ∧ W.grownBy w' (some g)
theorem RowTurn.below {T : TypeId} {base : Nat} {W w' : World} (h : RowTurn T base W w') (hb : base ≤ W.heap.size) : Below base W w' := by
  rcases h with h | ⟨g, c, _, _, hg, h⟩
  · exact (Below.refl base W).grown h hb (fun k hk => by cases hk)
  · exact (Below.refl base W).grown h hb (fun k hk => by cases hk; exact hg)
theorem run_own_it (S T : TypeId) (i0 : TypeInfo) (z : Value) (hS : Try.prog.underlying S = some (.slice T)) (hi : Try.prog.info? T = some i0) (hz0 : i0.zero = some z) (hz1 : i0.size = 4) (hz2 : i0.bytes = 24) (hzc : z.cells.size = 4)
    (W : World) (base : Nat) (v : Value) (l : List It) (x : It) (b cap : Nat) (hown : OwnI T W base v l) (hx : W.heap[b]? = some (.cells (cellI x).toArray T (0, 0))) (hb : base ≤ W.heap.size) (hsz : (l.length + 1) * 24 ≤ 140737488355328) :
    ∃ v' w', (Builtin.append_ #[S, S] S #[v, .slice (some ⟨b, 0, none⟩) 1 cap]).run Try.prog W = .ok v' w' ∧ OwnI T w' base v' (l ++ [x]) ∧ RowTurn T base W w' := by
  have hc := cellI_cells W b x T (0, 0) hx
  have hl4 : (cellI x).length = 1 * 4 := rfl
  have hend : ∀ (v' : Value) (w' : World), w'.ownsRow base T 4 v' (l.length + 1) (cellsI l ++ cellI x) → OwnI T w' base v' (l ++ [x]) := by
    intro v' w' h
    refine ⟨by rw [List.length_append, cellsI_snoc]; exact h, ?_⟩
    obtain ⟨g, cap, rfl⟩ := ownsRow_form h (by omega)
    simp
  rcases hown.1.2 with ⟨rfl, h0⟩ | ⟨g, cp, cur, rfl, hg, hh, hn, hm, hcs, ht⟩
  · obtain ⟨v', w', h1, h2, h3, _⟩ := run_append_own (P := Try.prog) W base S S T i0 z 4 24 hS hi hz0 hz1 hz2 hzc (by decide) (.slice none 0 0) l.length (cellsI l) hown.1 ⟨b, 0, none⟩ 1 cap (cellI x) hl4 hc (cellI_one x) (by unfold maxLen; omega) hsz hb
    exact ⟨v', w', h1, hend v' w' h2, .inl h3⟩
  · by_cases hroom : l.length < cp
    · obtain ⟨v', w', h1, h2, h3, _⟩ := run_append_own (P := Try.prog) W base S S T i0 z 4 24 hS hi hz0 hz1 hz2 hzc (by decide) (.slice (some ⟨g, 0, none⟩) l.length cp) l.length (cellsI l) hown.1 ⟨b, 0, none⟩ 1 cap (cellI x) hl4 hc (cellI_one x) (by unfold maxLen; omega) hsz hb
      refine ⟨v', w', h1, hend v' w' h2, .inr ⟨g, cur, hh, ?_, hg, h3⟩⟩
      have hl0 : l ≠ [] := fun e => by have := hown.2.2 e; cases this
      have := List.length_pos_iff.2 hl0
      omega
    · obtain ⟨v', w', h1, h2, h3⟩ := run_append_arg_grows (P := Try.prog) W S S T i0 z 4 24 hS hi hz0 hz1 hz2 hzc (by decide) ⟨g, 0, none⟩ l.length cp (cellsI l) (cellsI_length l) (fun j u hu => by
        have hj : j < l.length * 4 := by
          rw [← cellsI_length]
          exact (List.getElem?_eq_some_iff.1 hu).1
        rw [cell_add, Nat.zero_add, World.ownsRow.cellAt hown.1 j hj, hu]) ⟨b, 0, none⟩ 1 cap (cellI x) hl4 hc (by omega) (by unfold maxLen; omega) hsz
      exact ⟨v', w', h1, hend v' w' (ownsRow_le h2 hb), .inl h3⟩
end Go.Proofs.Ytonbfcpbgkpbaab
end
section
/- Appending inside a fence; what a row's turn keeps. -/
namespace Go.Proofs.Ytonbfcpbgkpbaab
open Go.RowKit Go.Shelf
open Go.Joins
attribute [local go_sem] Oper.semAt_some
theorem wpListIn_append_run {F : Fence} {n : Nat} {P : Program} {w : World} {ops : Array Oper} {rest : List Oper} {o : Oper} {a : Act} {Q : Exit → Act → World → Prop} (hgd : o.guard = none) (s x : Operand) (t tx : TypeId)
    (ho : o.op = .call { callee := .builtin .append, args := #[s, x], argTypes := #[t, tx] }) (v y : Value) (hs : a.eval s = v) (hx : a.eval x = y) (v' : Value) (w' : World)
    (hr : (Builtin.append_ #[t, tx] o.type #[v, y]).run P w = .ok v' w') (h : wpListIn F n P ops Q rest (a.put o.dst v') w') : wpListIn F n P ops Q (o :: rest) a w := by
  refine wpListIn_plain hgd fun K hK' => ?_
  unfold Oper.wpIn
  refine ⟨?_, ?_⟩
  · simp [Oper.about, ho, resolve, Target.leads, Sem.run_pure]
  · rw [Oper.semAt_plain F _ _ (by rw [ho]; intro c hc'; cases hc')]
    simp [execOp, ho, resolve, invoke, builtin, hs, hx, hr, Result.andThen]
    exact hK' _ _ h
theorem RowTurn.keeps {T : TypeId} {base : Nat} {A w' : World} (h : RowTurn T base A w') {k : Nat} {o : Obj} (hk : A.heap[k]? = some o) (hno : ∀ c, o = .cells c T (0, 0) → c.size = 4) : w'.heap[k]? = some o := by
  have hlt := (Array.getElem?_eq_some_iff.1 hk).1
  rcases h with h | ⟨g, c, hg, hc, _, h⟩
  · exact (h.block k hlt (by simp)).trans hk
  · refine (h.block k hlt (fun e => ?_)).trans hk
    obtain rfl : k = g := by simpa using e
    rw [hg] at hk
    exact hc (hno c (Option.some.inj hk).symm)
theorem RowTurn.others {T : TypeId} {base : Nat} {A w' : World} (h : RowTurn T base A w') : KeepsOthers A w' := by
  rcases h with h | ⟨g, c, hg, hc, _, h⟩
  · exact KeepsOthers.of_grownBy h (fun j o e _ => by cases e)
  · exact KeepsOthers.of_grownBy h (fun j o e hj => by cases e; rw [hg] at hj; cases hj; rfl)
end Go.Proofs.Ytonbfcpbgkpbaab
end
section
/- recipe.placeOf: its contract. -/
namespace Go.Proofs.Ytonbfcpbgkpbaab
open Go.RowKit Go.Shelf
open Go.Joins
set_option linter.unusedVariables false
set_option linter.unusedSimpArgs false
attribute [local go_sem] Oper.semAt_some
/-- The text ahead of byte y; its last line. -/
def aheadT (src : ByteArray) (y : Nat) : ByteArray := src.extract 0 y
def lineT (src : ByteArray) (y : Nat) : ByteArray := (aheadT src y).extract (Lib.lastIndexByte (aheadT src y) 10 + 1).toNat (aheadT src y).size
/-- Line and column of byte y. -/
def plT (src : ByteArray) (y : Nat) : Nat × Nat := (1 + Lib.countByte (aheadT src y).data.toList 10, 1 + (items 0 (tl (lineT src y))).length)
theorem keepsOthers_refl0 (W : World) : KeepsOthers W W := KeepsOthers.of_grownBy (row := none) ⟨rfl, rfl, rfl, Nat.le_refl _, fun _ _ _ => rfl⟩ (fun j o e _ => by cases e)
theorem block_own {β : Type} (B : Nat) (t : TypeId) (f : β → Array Value) : Own (fun s W => W.heap[B]? = some (.cells (f s) t (0, 0))) := fun s X Y row hs hg hrow =>
  (hg.block B (Array.getElem?_eq_some_iff.1 hs).1 (fun e' => by obtain ⟨o, ho, hc⟩ := hrow B e'.symm; rw [hs] at ho; cases ho; cases hc)).trans hs
set_option maxRecDepth 100000 in
set_option maxHeartbeats 4000000 in
theorem placeOf_any (src : ByteArray) (y : Nat) (hs : src.size ≤ 4194304) (hy : y ≤ src.size) (w : World) :
    Calls Try.prog 17 #[.string src, .int .i64 (y : Nat)] w fun e w' => e = .returned (.agg #[.int .i64 (y : Nat), .int .i64 ((plT src y).1 : Nat), .int .i64 ((plT src y).2 : Nat)]) ∧ Below w.heap.size w w' := by
  have hasz : (aheadT src y).size = y := by unfold aheadT; rw [ByteArray.size_extract]; omega
  obtain ⟨q, hq⟩ : ∃ q, q = (plT src y).1 := ⟨_, rfl⟩
  have hc1 : (1 : Int) + (Lib.countByte (aheadT src y).data.toList 10 : Int) = (q : Int) := by rw [hq]; unfold plT; simp
  have hcq : Lib.countByte (aheadT src y).data.toList 10 ≤ 4194304 := by
    unfold Lib.countByte
    refine Nat.le_trans List.count_le_length ?_
    have : (aheadT src y).data.toList.length = (aheadT src y).size := Array.length_toList
    omega
  have hli : -1 ≤ Lib.lastIndexByte (aheadT src y) 10 ∧ Lib.lastIndexByte (aheadT src y) 10 < y := by
    rcases Lib.lastIndexByte_spec (aheadT src y) 10 with ⟨h1, _⟩ | ⟨i, h1, h2, _⟩ <;> omega
  obtain ⟨lz, hlz⟩ : ∃ lz : Nat, Lib.lastIndexByte (aheadT src y) 10 + 1 = (lz : Int) := ⟨(Lib.lastIndexByte (aheadT src y) 10 + 1).toNat, by omega⟩
  have hly : lz ≤ y := by omega
  have hlt : lineT src y = (aheadT src y).extract lz (aheadT src y).size := by unfold lineT; rw [hlz]; rfl
  have hcol : (plT src y).2 = 1 + (items 0 (tl (lineT src y))).length := rfl
  have HCO := Lib.hid hcol
  rw [← hq]
  have hlsz : (lineT src y).size ≤ 4194304 := by rw [hlt, ByteArray.size_extract]; omega
  have HC := count_one (aheadT src y) 10
  have HL := last_one (aheadT src y) 10 (by omega)
  obtain ⟨cb, hcb⟩ : ∃ cb, cb = Lib.countByte (aheadT src y).data.toList 10 := ⟨_, rfl⟩
  rw [← hcb] at HC hc1 hcq
  obtain ⟨li, hlv⟩ : ∃ li, li = Lib.lastIndexByte (aheadT src y) 10 := ⟨_, rfl⟩
  rw [show ((10 : UInt8).toNat : Int) = 10 from rfl] at HL
  rw [← hlv] at HL hli hlz
  obtain ⟨A, hA⟩ : ∃ A, A = aheadT src y := ⟨_, rfl⟩
  rw [← hA] at HC HL hasz hlt
  have hAx : src.extract 0 y = A := hA.symm
  obtain ⟨LT, hLT⟩ : ∃ LT, LT = lineT src y := ⟨_, rfl⟩
  rw [← hLT] at HCO hlsz hlt
  have hLx : A.extract lz y = LT := by rw [hlt, hasz]
  obtain ⟨col, hcl⟩ : ∃ col, col = (plT src y).2 := ⟨_, rfl⟩
  rw [← hcl] at HCO ⊢
  clear hA hcol hlt hcb hlv hq hLT hcl
  refine (callsIn_wide (n := 3)).1 ?_
  have h1 : 1 ≤ 3 := by omega
  have hN := items_length (tl LT) 0
  rw [tl_len] at hN
  have hnf : ∀ (wx : World) (lb : Array Value), (binOp BinOp.eql 79 (.func (.func 43) #[] lb) .nilFunc).run Try.prog wx = .ok (.bool false) wx := fun wx lb => by rfl
  refine callsIn_of_wp_marks Try.func17 rfl trivial ?_ rfl
  simp only [Try.ntmps17, List.size_toArray, List.length_cons, List.length_nil, Nat.reduceAdd, Nat.reduceSub, Array.replicate_succ, Array.replicate_zero, List.push_toArray, List.append_toArray, List.nil_append, List.cons_append]
  gi_wp2_with (first
    | (refine ⟨trivial, ?_⟩; gi_at_call 28; refine (callsIn_wide.2 (HC _)).mono ?_; rintro e w' ⟨rfl, rfl⟩)
    | (refine ⟨trivial, ?_⟩; gi_at_call 30; refine (callsIn_wide.2 (HL _)).mono ?_; rintro e w' ⟨rfl, rfl⟩)
    | (refine ⟨trivial, ?_⟩; gi_at_call 29; refine (items_in 2 LT _).mono ?_; rintro e w' ⟨rfl, rfl⟩))
  have b0 := heap_alloc_new w (.cells #[.int .i64 0, .int .i64 0, .int .i64 0] 29)
  have b1 := heap_alloc_new (w.alloc (.cells #[.int .i64 0, .int .i64 0, .int .i64 0] 29)) (.cells #[.int .i64 (y : Nat), .int .i64 (q : Nat), .int .i64 1] 29)
  have b2 := heap_alloc_new ((w.alloc (.cells #[.int .i64 0, .int .i64 0, .int .i64 0] 29)).alloc (.cells #[.int .i64 (y : Nat), .int .i64 (q : Nat), .int .i64 1] 29)) (.cells #[.string LT] 9)
  simp only [World.size_alloc] at b1 b2
  obtain ⟨W0, hW0⟩ : ∃ W0, W0 = ((w.alloc (.cells #[.int .i64 0, .int .i64 0, .int .i64 0] 29)).alloc (.cells #[.int .i64 (y : Nat), .int .i64 (q : Nat), .int .i64 1] 29)).alloc (.cells #[.string LT] 9) := ⟨_, rfl⟩
  rw [← hW0] at b2 ⊢
  have hB0 : Below w.heap.size w W0 := by rw [hW0]; exact (((Below.refl _ w).alloc (Nat.le_refl _) _).alloc (by simp) _).alloc (by simp; omega) _
  have hsz : W0.heap.size = w.heap.size + 3 := by rw [hW0]; simp
  have c1 : W0.heap[w.heap.size + 1]? = some (.cells #[.int .i64 (y : Nat), .int .i64 (q : Nat), .int .i64 1] 29 (0, 0)) := by
    rw [hW0, Below.heap_alloc _ _ _ (by simp)]
    exact b1
  have c0 : W0.heap[w.heap.size]? = some (.cells #[.int .i64 0, .int .i64 0, .int .i64 0] 29 (0, 0)) := by
    rw [hW0, Below.heap_alloc _ _ _ (by simp; omega), Below.heap_alloc _ _ _ (by simp)]
    exact b0
  clear hW0 b0 b1
  refine wpIn_rangeFunc_ownH rfl h1 (gf := 43) (lb := #[.pointer (some ⟨w.heap.size + 1 + 1, 0, none⟩)]) rfl trivial (enters_of Try.func43 (by kernel_rfl) rfl)
    (items_stops 2 (by omega) (w.heap.size + 1 + 1) LT (by omega) W0 (cell_of_one b2)) KpJ.trans (KpJ.putObj (by omega)) (Below.refl _ _) (fun _ => rfl)
    (fun pre W => (W.heap[w.heap.size + 1]? = some (.cells #[.int .i64 (y : Nat), .int .i64 (q : Nat), .int .i64 (1 + pre.length : Nat)] 29 (0, 0)) ∧ W.heap[w.heap.size]? = some (.cells #[.int .i64 0, .int .i64 0, .int .i64 0] 29 (0, 0))) ∧ Below w.heap.size w W)
    (fun _ _ _ => False)
    (OwnFrom.and (OwnFrom.and (Own.from (block_own (w.heap.size + 1) 29 (fun pre : List It => #[.int .i64 (y : Nat), .int .i64 (q : Nat), .int .i64 (1 + pre.length : Nat)])) _) (Own.from (block_own w.heap.size 29 (fun _ : List It => #[.int .i64 0, .int .i64 0, .int .i64 0])) _)) (ownFrom_below (Nat.le_refl _) (by omega)))
    (fun _ _ _ _ _ hs _ _ => hs)
    ⟨⟨c1, c0⟩, hB0⟩
    (fun x a' W => a' = { tmps := #[.string src, .int .i64 (y : Nat), undef, undef, .pointer (some ⟨w.heap.size, 0, none⟩), .string A, .pointer (some ⟨w.heap.size + 1, 0, none⟩), .string src, .int .i64 (y : Nat), .string A, .int .i64 (y : Nat), .string A, .int .i64 (cb : Nat), .int .i64 (q : Nat), .agg #[.int .i64 (y : Nat), .int .i64 (q : Nat), .int .i64 1], .string A, .string A, .int .i64 li, .int .i64 (lz : Nat), .string LT, .func (.func 43) #[] #[.pointer (some ⟨w.heap.size + 1 + 1, 0, none⟩)], itv x, undef, undef, undef, undef, undef], defers := [] })
    (fun x a' _ X Y row hs hg hr => hs)
    ?assign ?body ?done ?stop
  case assign =>
    rintro l pre x W K hI hK
    gi_wp2
    exact hK _ _ ((keepsOthers_refl0 W).from _) (KpJ.refl _ W) hI (by simp)
  case body =>
    rintro l pre x a' W hl ⟨r, hr⟩ ⟨⟨hx, hr0⟩, hB⟩ rfl hlt
    have d2 : W.cell? ⟨w.heap.size + 1, 2, none⟩ = some (.int .i64 (1 + pre.length : Nat)) := by rw [cell_of_row W _ 2 _ _ _ hx]; rfl
    have f2 : W.frozen? ⟨w.heap.size + 1, 2, none⟩ = false := frozen_of_row W _ 2 _ _ hx
    have hst := heap_setCell_same W (w.heap.size + 1) 2 _ _ (.int .i64 (1 + (pre ++ [x]).length : Nat)) hx
    have hpl : (pre ++ [x]).length = pre.length + 1 := by simp
    rw [hpl] at hst
    obtain ⟨k, hk⟩ : ∃ k, k = 1 + pre.length := ⟨_, rfl⟩
    rw [← hk] at d2 hx
    rw [show 1 + (pre.length + 1) = k + 1 by omega] at hst
    have hkb : k ≤ 4194305 := by omega
    have HK := Lib.hid hk
    clear hk hpl
    gi_wp2
    refine ⟨(KeepsOthers.setCell _ _ _).from _, ?_, ⟨?_, ?_⟩, ?_⟩
    · refine ⟨by simp, heap_setCell_other W ⟨w.heap.size + 1, 2, none⟩ _ _ (by show w.heap.size + 1 + 1 ≠ w.heap.size + 1; omega), fun j c hj hc => heap_setCell_other W ⟨w.heap.size + 1, 2, none⟩ j _ (fun e => ?_)⟩
      have e' : j = w.heap.size + 1 := e
      subst e'
      rw [hx] at hj
      injection hj with hj
      injection hj with hj _ _
      rw [← hj] at hc
      simp at hc
    · rw [show (pre ++ [x]).length = pre.length + 1 by simp, show 1 + (pre.length + 1) = k + 1 by rw [HK.out]; omega]
      exact hst
    · exact (heap_setCell_other W ⟨w.heap.size + 1, 2, none⟩ _ _ (by show w.heap.size ≠ w.heap.size + 1; omega)).trans hr0
    · exact hB.setCell (p := ⟨w.heap.size + 1, 2, none⟩) (by show w.heap.size ≤ w.heap.size + 1; omega) _
  case done =>
    rintro D ys W hD rfl ⟨⟨hx, hr0⟩, hB⟩ hK
    rw [← HCO.out] at hx
    have c0 : W.cell? ⟨w.heap.size, 0, none⟩ = some (.int .i64 0) := by rw [cell_of_row W _ 0 _ _ _ hr0]; rfl
    have c1 : W.cell? ⟨w.heap.size, 1, none⟩ = some (.int .i64 0) := by rw [cell_of_row W _ 1 _ _ _ hr0]; rfl
    have c2 : W.cell? ⟨w.heap.size, 2, none⟩ = some (.int .i64 0) := by rw [cell_of_row W _ 2 _ _ _ hr0]; rfl
    have d0 : W.cell? ⟨w.heap.size + 1, 0, none⟩ = some (.int .i64 (y : Nat)) := by rw [cell_of_row W _ 0 _ _ _ hx]; rfl
    have d1 : W.cell? ⟨w.heap.size + 1, 1, none⟩ = some (.int .i64 (q : Nat)) := by rw [cell_of_row W _ 1 _ _ _ hx]; rfl
    have d2 : W.cell? ⟨w.heap.size + 1, 2, none⟩ = some (.int .i64 (col : Nat)) := by rw [cell_of_row W _ 2 _ _ _ hx]; rfl
    have f0 : W.frozen? ⟨w.heap.size, 0, none⟩ = false := frozen_of_row W _ 0 _ _ hr0
    have f1 : W.frozen? ⟨w.heap.size, 1, none⟩ = false := frozen_of_row W _ 1 _ _ hr0
    have f2 : W.frozen? ⟨w.heap.size, 2, none⟩ = false := frozen_of_row W _ 2 _ _ hr0
    have hz1 := heap_setCell_same W w.heap.size 0 _ _ (.int .i64 (y : Nat)) hr0
    have hz2 := heap_setCell_same _ w.heap.size 1 _ _ (.int .i64 (q : Nat)) hz1
    have hz3 := heap_setCell_same _ w.heap.size 2 _ _ (.int .i64 (col : Nat)) hz2
    gi_wp2
    have hDn : D ≠ w.heap.size := by omega
    have hK3 : (((W.setCell ⟨w.heap.size, 0, none⟩ (.int .i64 (y : Nat))).setCell ⟨w.heap.size, 1, none⟩ (.int .i64 (q : Nat))).setCell ⟨w.heap.size, 2, none⟩ (.int .i64 (col : Nat))).heap[D]? = some (.deferred (some [])) := by
      rw [heap_setCell_other _ ⟨w.heap.size, 2, none⟩ D _ hDn, heap_setCell_other _ ⟨w.heap.size, 1, none⟩ D _ hDn, heap_setCell_other _ ⟨w.heap.size, 0, none⟩ D _ hDn]
      exact hK
    have hB3 : Below w.heap.size w (((W.setCell ⟨w.heap.size, 0, none⟩ (.int .i64 (y : Nat))).setCell ⟨w.heap.size, 1, none⟩ (.int .i64 (q : Nat))).setCell ⟨w.heap.size, 2, none⟩ (.int .i64 (col : Nat))) :=
      ((hB.setCell (p := ⟨w.heap.size, 0, none⟩) (Nat.le_refl _) _).setCell (p := ⟨w.heap.size, 1, none⟩) (Nat.le_refl _) _).setCell (p := ⟨w.heap.size, 2, none⟩) (Nat.le_refl _) _
    obtain ⟨Z, hZ⟩ : ∃ Z, Z = (((W.setCell ⟨w.heap.size, 0, none⟩ (.int .i64 (y : Nat))).setCell ⟨w.heap.size, 1, none⟩ (.int .i64 (q : Nat))).setCell ⟨w.heap.size, 2, none⟩ (.int .i64 (col : Nat))) := ⟨_, rfl⟩
    rw [← hZ] at hK3 hB3 hz3 ⊢
    clear hZ
    refine ⟨by simp, .inl ⟨_, _, rfl, run_takeDeferred hK3, ?_⟩⟩
    have z3 : (Z.putObj D (.deferred none)).heap[w.heap.size]? = _ := (World.putObj_heap_other hDn.symm).trans hz3
    obtain ⟨U, hU⟩ : ∃ U, U = Z.putObj D (.deferred none) := ⟨_, rfl⟩
    have hBU : Below w.heap.size w U := by
      rw [hU]
      exact hB3.trans ⟨rfl, rfl, rfl, by simp [World.putObj], fun k hk => World.putObj_heap_other (by omega)⟩
    rw [← hU] at z3 ⊢
    have e0 : U.cell? ⟨w.heap.size, 0, none⟩ = some (.int .i64 (y : Nat)) := by rw [cell_of_row U _ 0 _ _ _ z3]; rfl
    have e1 : U.cell? ⟨w.heap.size, 1, none⟩ = some (.int .i64 (q : Nat)) := by rw [cell_of_row U _ 1 _ _ _ z3]; rfl
    have e2 : U.cell? ⟨w.heap.size, 2, none⟩ = some (.int .i64 (col : Nat)) := by rw [cell_of_row U _ 2 _ _ _ z3]; rfl
    exact ⟨.agg #[.int .i64 (y : Nat), .int .i64 (q : Nat), .int .i64 (col : Nat)], by simp [results, Try.results17, go_sem, e0, e1, e2], rfl, hBU⟩
  case stop =>
    rintro D c pre W _ _ h _
    exact h.elim
end Go.Proofs.Ytonbfcpbgkpbaab
end
section
/- A region that draws its order: moves may be taken first; so may a load that yields the same on either side of a call. -/
namespace Go.Proofs.Ytonbfcpbgkpbaab
open Go.RowKit
section
variable {P : Program} {ops : Array Oper} {md : Region.Mode} {Q : Exit → Act → World → Prop} {S : World → Prop}
/-- From here on just one operation may come up at a time: those numbered is. -/
def oneB (md : Region.Mode) (ops : Array Oper) : List Nat → Array Bool → Bool
  | [], listed => decide (Region.ready md ops listed = [])
  | i :: is, listed => decide (Region.ready md ops listed = [i]) && oneB md ops is (listed.setIfInBounds i true)
def pick (l : List Oper) : List Nat → List Oper
  | [] => []
  | i :: is => (l.drop i).take 1 ++ pick l is
theorem wpAny_one (l : List Oper) : ∀ (is : List Nat) (listed : Array Bool) (a : Act) (w : World), (∀ i ∈ is, i < l.length) → oneB md l.toArray is listed = true →
    wpList P l.toArray Q (pick l is) a w → wpAny P md l.toArray Q is.length listed a w
  | [], _, _, _, _, hB, h => ⟨of_decide_eq_true hB, h⟩
  | i :: is, listed, a, w, hl, hB, h => by
    simp only [oneB, Bool.and_eq_true, decide_eq_true_eq] at hB
    have hi := hl i (List.mem_cons_self ..)
    have h0 : l.toArray[i]? = some l[i] := by simp [hi]
    have h1 : pick l (i :: is) = l[i] :: pick l is := by
      show (l.drop i).take 1 ++ pick l is = _
      rw [List.drop_eq_getElem_cons hi]
      rfl
    rw [h1] at h
    refine ⟨fun e => (by rw [hB.1] at e; cases e), fun k hk => ?_⟩
    rw [hB.1] at hk
    obtain rfl : k = i := by simpa using hk
    have hw : wpOp P l.toArray Q k (wpList P l.toArray Q (pick l is)) a w := by unfold wpOp; simp only [h0]; exact h
    exact wpOp_mono (fun a' w' h' => wpAny_one l is _ a' w' (fun j hj => hl j (List.mem_cons_of_mem _ hj)) hB.2 h') hw
/-- A move may be taken first. -/
theorem wpAny_move {i fuel : Nat} {oi : Oper} (x : Operand) {listed : Array Bool} {a : Act} {w : World} (hi : ops[i]? = some oi) (ho : oi.op = .move x) (hg : oi.guard = none)
    (hs : Region.noSelect ops = true) (hf : Region.free md ops listed i = true) (hr : (Region.ready md ops listed).contains i = true)
    (hQ : ∀ c (a' : Act) w v, Q (.panic c) (a'.put oi.dst v) w → Q (.panic c) a' w)
    (h : wpAny P md ops Q fuel (listed.setIfInBounds i true) (a.put oi.dst (a.eval x)) w) : wpAny P md ops Q (fuel + 1) listed a w :=
  wpAny_take hi hs hf hr (fun c a' w' h => hQ c a' w' _ h) (.inl ⟨by simp [Region.wanted, hg], fun w' => by simp [execOp, ho, Sem.run_pure]⟩) h
/-- Two may come up: a load, which yields the same on either side of the other. It is taken first; behind the two one at a time. -/
theorem wpAny_load {i j : Nat} {oi oj : Oper} {u : Value} {listed : Array Bool} {a : Act} {w : World} (l : List Oper) (is : List Nat) (hi : l.toArray[i]? = some oi) (hj : l.toArray[j]? = some oj)
    (hs : Region.noSelect l.toArray = true) (hap : oj.apart l.toArray oi = true) (hij : i ≠ j)
    (hr : Region.ready md l.toArray listed = [i, j]) (hri : Region.ready md l.toArray (listed.setIfInBounds i true) = [j]) (hrj : Region.ready md l.toArray (listed.setIfInBounds j true) = [i])
    (hB : oneB md l.toArray is ((listed.setIfInBounds j true).setIfInBounds i true) = true) (hl : ∀ i ∈ is, i < l.length)
    (hQ : ∀ c (a' : Act) w v, Q (.panic c) (a'.put oj.dst v) w → Q (.panic c) a' w)
    (hy : YieldsIf P l.toArray S oj u a) (hS : S w) (hg : oi.guard = none)
    (h : ∀ K : Act → World → Prop, (∀ a' w', S w' → wpList P l.toArray Q (pick l is) a' w' → K a' w') → oi.wp P (a.put oj.dst u) w K Q) :
    wpAny P md l.toArray Q (is.length + 2) listed a w := by
  have hsel := Region.noSelect_spec hs
  have h1 : wpOp P l.toArray Q i (fun a' w' => S w' ∧ wpAny P md l.toArray Q is.length ((listed.setIfInBounds j true).setIfInBounds i true) a' w') (a.put oj.dst u) w := by
    unfold wpOp
    simp only [hi, Region.wanted, hg, if_true]
    exact .inl (h _ fun a' w' hs' hw' => ⟨hs', wpAny_one l is _ a' w' hl hB hw'⟩)
  refine ⟨fun e => (by rw [hr] at e; cases e), fun k hk => ?_⟩
  rw [hr] at hk
  have hk' : k = i ∨ k = j := by simpa using hk
  rcases hk' with rfl | rfl
  · have h2 := wpOp_putIf hi hap (fun cs b => hsel j oj cs b hj) (fun cs b => hsel k oi cs b hi) (fun c a' w' h => hQ c a' w' _ h) hy h1
    refine wpOp_mono (fun a' w' h3 => ?_) h2
    refine ⟨fun e => (by rw [hri] at e; cases e), fun m hm => ?_⟩
    rw [hri] at hm
    obtain rfl : m = j := by simpa using hm
    refine h3.1.wpOp hj h3.2.1 ?_
    rw [Array.setIfInBounds_comm _ _ hij]
    exact h3.2.2
  · refine hy.wpOp hj hS ?_
    refine ⟨fun e => (by rw [hrj] at e; cases e), fun m hm => ?_⟩
    rw [hrj] at hm
    obtain rfl : m = i := by simpa using hm
    exact wpOp_mono (fun a' w' h3 => h3.2) h1
/-- Two may come up: a load, which yields the same on either side of the other. It is taken first; behind the two one at a time. -/
theorem wpAny_load2 {i j : Nat} {oi oj : Oper} {u : Value} {listed : Array Bool} {a : Act} {w : World} (l : List Oper) (is : List Nat) (hi : l.toArray[i]? = some oi) (hj : l.toArray[j]? = some oj)
    (hs : Region.noSelect l.toArray = true) (hap : oj.apart l.toArray oi = true) (hij : i ≠ j)
    (hr : Region.ready md l.toArray listed = [j, i]) (hri : Region.ready md l.toArray (listed.setIfInBounds i true) = [j]) (hrj : Region.ready md l.toArray (listed.setIfInBounds j true) = [i])
    (hB : oneB md l.toArray is ((listed.setIfInBounds j true).setIfInBounds i true) = true) (hl : ∀ i ∈ is, i < l.length)
    (hQ : ∀ c (a' : Act) w v, Q (.panic c) (a'.put oj.dst v) w → Q (.panic c) a' w)
    (hy : YieldsIf P l.toArray S oj u a) (hS : S w) (hg : oi.guard = none)
    (h : ∀ K : Act → World → Prop, (∀ a' w', S w' → wpList P l.toArray Q (pick l is) a' w' → K a' w') → oi.wp P (a.put oj.dst u) w K Q) :
    wpAny P md l.toArray Q (is.length + 2) listed a w := by
  have hsel := Region.noSelect_spec hs
  have h1 : wpOp P l.toArray Q i (fun a' w' => S w' ∧ wpAny P md l.toArray Q is.length ((listed.setIfInBounds j true).setIfInBounds i true) a' w') (a.put oj.dst u) w := by
    unfold wpOp
    simp only [hi, Region.wanted, hg, if_true]
    exact .inl (h _ fun a' w' hs' hw' => ⟨hs', wpAny_one l is _ a' w' hl hB hw'⟩)
  refine ⟨fun e => (by rw [hr] at e; cases e), fun k hk => ?_⟩
  rw [hr] at hk
  have hk' : k = i ∨ k = j := by
    have h9 : k = j ∨ k = i := by simpa using hk
    exact h9.symm
  rcases hk' with rfl | rfl
  · have h2 := wpOp_putIf hi hap (fun cs b => hsel j oj cs b hj) (fun cs b => hsel k oi cs b hi) (fun c a' w' h => hQ c a' w' _ h) hy h1
    refine wpOp_mono (fun a' w' h3 => ?_) h2
    refine ⟨fun e => (by rw [hri] at e; cases e), fun m hm => ?_⟩
    rw [hri] at hm
    obtain rfl : m = j := by simpa using hm
    refine h3.1.wpOp hj h3.2.1 ?_
    rw [Array.setIfInBounds_comm _ _ hij]
    exact h3.2.2
  · refine hy.wpOp hj hS ?_
    refine ⟨fun e => (by rw [hrj] at e; cases e), fun m hm => ?_⟩
    rw [hrj] at hm
    obtain rfl : m = i := by simpa using hm
    exact wpOp_mono (fun a' w' h3 => h3.2) h1
end
end Go.Proofs.Ytonbfcpbgkpbaab
end
section
/- recipe's meaning: what it holds in memory. -/
namespace Go.Proofs.Ytonbfcpbgkpbaab
open Go.RowKit Go.Sort Go.Joins
set_option linter.unusedVariables false
set_option maxRecDepth 100000
def encS1 (s : List UInt8) : List Value := [.string (textOf s)]
def encG (x : Mg) : List Value := [.int .i64 x.l, .int .i64 x.r, .int .i64 x.i]
theorem encG_one (x : Mg) : ∀ v ∈ encG x, v.oneCell' = true := by
  intro v hv
  simp [encG] at hv
  rcases hv with rfl | rfl | rfl <;> rfl
theorem infoMg : (Try.prog.info? 47).map (fun i => (i.zero, i.size, i.bytes)) = some (some (.agg #[.int .i64 0, .int .i64 0, .int .i64 0]), 3, 24) := by kernel_rfl
theorem infoStr : (Try.prog.info? 9).map (fun i => (i.zero, i.size, i.bytes)) = some (some (.string ⟨#[]⟩), 1, 16) := by kernel_rfl
/-- The words lie at block b. -/
def WB (w : World) (b : Nat) (l : List (List UInt8)) : Prop := w.heap[b]? = some (.cells (l.map fun s => Value.string (textOf s)).toArray 9 (0, 0))
theorem WB.at_ {w : World} {b : Nat} {l : List (List UInt8)} (h : WB w b l) {i : Nat} (hi : i < l.length) : w.cell? ⟨b, i, none⟩ = some (.string (textOf (l.getD i []))) := by
  refine (cell_of_block h i).trans ?_
  simp [List.getD, List.getElem?_eq_getElem hi]
theorem WB.set {w : World} {b : Nat} {l : List (List UInt8)} (h : WB w b l) (i : Nat) (s : List UInt8) : WB (w.setCell ⟨b, i, none⟩ (.string (textOf s))) b (l.set i s) := by
  have := block_setCell h (i := i) (.string (textOf s))
  unfold WB
  rw [this]
  congr 2
  apply Array.ext'
  simp [List.map_set]
theorem flat_one (l : List (List UInt8)) : l.flatMap encS1 = l.map fun s => Value.string (textOf s) := by
  induction l with
  | nil => rfl
  | cons s l ih => rw [List.flatMap_cons, List.map_cons, ih]; rfl
theorem WB.own {w : World} {b : Nat} {l : List (List UInt8)} (h : WB w b l) (base : Nat) (hb : base ≤ b) (hl : l.length ≤ 4611686018427387904) : OwnG 9 1 encS1 w base (.slice (some ⟨b, 0, none⟩) l.length l.length) l :=
  ⟨by rw [flat_one]; simp, .inr ⟨b, l.length, _, rfl, hb, h, Nat.le_refl _, by unfold maxLen; omega, by simp, by rw [flat_one]; simp [List.take_of_length_le]⟩⟩
theorem run_makeT (u : World) (n : Nat) (hn : n ≤ 4294967296) : (Instr.makeSlice 23 (.int .i64 (n : Nat)) (.int .i64 (n : Nat))).run Try.prog u = .ok (.slice (some ⟨u.heap.size, 0, none⟩) n n) (u.alloc (.cells ((List.replicate n ([] : List UInt8)).map fun s => Value.string (textOf s)).toArray 9)) := by
  obtain ⟨i0, hi, hz0, hz1, hz2⟩ := info_parts infoStr
  have h := run_make (P := Try.prog) u 23 9 i0 _ Try.underlying23 hi hz0 .i64 .i64 (n : Int) (n : Int) (by omega) (Int.le_refl _) (by rw [hz2]; omega) (by omega)
  rw [hz1] at h
  have e : ((n : Int)).toNat = n := by omega
  rw [e] at h
  have e2 : ((List.replicate n ([] : List UInt8)).map fun s => Value.string (textOf s)).toArray = madeCells (Value.string ⟨#[]⟩).cells (n * 1) := by
    apply Array.ext
    · simp [madeCells]
    · intro i h1 h2
      simp [madeCells, Value.cells, Nat.mod_one, textOf]
  rw [e2]
  exact h
theorem flat_at {α : Type} {k : Nat} {enc : α → List Value} (hk : ∀ x, (enc x).length = k) : ∀ (l : List α) (i : Nat) (x : α), l[i]? = some x → ∀ j, j < k → (l.flatMap enc)[i * k + j]? = (enc x)[j]?
  | [], i, x, h, j, hj => by simp at h
  | y :: l, 0, x, h, j, hj => by
    simp at h
    subst h
    rw [List.flatMap_cons, Nat.zero_mul, Nat.zero_add, List.getElem?_append_left (by rw [hk]; exact hj)]
  | y :: l, i + 1, x, h, j, hj => by
    simp at h
    rw [List.flatMap_cons, List.getElem?_append_right (by rw [hk, Nat.add_mul]; omega), hk, Nat.add_mul, Nat.one_mul, show i * k + k + j - k = i * k + j by omega]
    exact flat_at hk l i x h j hj
theorem OwnG.slice {α : Type} {T : TypeId} {k : Nat} {enc : α → List Value} {w : World} {base : Nat} {v : Value} {l : List α} (h : OwnG T k enc w base v l) : ∃ a cap, v = .slice a l.length cap := by
  rcases h.2 with ⟨hv, h0⟩ | ⟨b, cap, cur, hv, _⟩
  · exact ⟨none, 0, by rw [hv, h0]⟩
  · exact ⟨some ⟨b, 0, none⟩, cap, hv⟩
theorem OwnG.row {α : Type} {T : TypeId} {k : Nat} {enc : α → List Value} (hk : ∀ x, (enc x).length = k) {w : World} {base : Nat} {a : Option Addr} {cap : Nat} {l : List α} (h : OwnG T k enc w base (.slice a l.length cap) l) {i : Nat} {x : α} (hx : l[i]? = some x) :
    ∃ b, a = some ⟨b, 0, none⟩ ∧ base ≤ b ∧ b < w.heap.size ∧ ∀ j, j < k → w.cell? ⟨b, i * k + j, none⟩ = (enc x)[j]? := by
  have hi : i < l.length := (List.getElem?_eq_some_iff.1 hx).1
  have h' := h
  rcases h.2 with ⟨hv, h0⟩ | ⟨b, cap', cur, hv, hbb, hh, r⟩
  · omega
  · cases hv
    refine ⟨b, rfl, hbb, (Array.getElem?_eq_some_iff.1 hh).1, fun j hj => ?_⟩
    rw [World.ownsRow.cellAt h' (i * k + j) (by
      have : (i + 1) * k ≤ l.length * k := Nat.mul_le_mul_right k hi
      rw [Nat.add_mul] at this
      omega)]
    exact flat_at hk l i x hx j hj
theorem OwnG.base_le {α : Type} {T : TypeId} {k : Nat} {enc : α → List Value} {w : World} {base base' : Nat} {v : Value} {l : List α} (h : OwnG T k enc w base v l) (hb : base' ≤ base) : OwnG T k enc w base' v l := ownsRow_le h hb
theorem OwnG.kt {α : Type} {T : TypeId} {k : Nat} {enc : α → List Value} {w w' : World} {base : Nat} {v : Value} {l : List α} (h : OwnG T k enc w base v l) (hk : ∀ (b : Nat) (cur : Array Value), w.heap[b]? = some (Obj.cells cur T (0, 0)) → w'.heap[b]? = w.heap[b]?) : OwnG T k enc w' base v l := by
  refine ⟨h.1, ?_⟩
  rcases h.2 with h0 | ⟨b, cap, cur, hv, hbb, hh, r⟩
  · exact .inl h0
  · exact .inr ⟨b, cap, cur, hv, hbb, (hk b cur hh).trans hh, r⟩
theorem MapS.block {w : World} {b n : Nat} {f : ByteArray → Option Nat} (h : MapS w b n f) : ∃ es c, w.heap[b]? = some (.map es c) := by
  obtain ⟨D, ⟨es, clock, hb, _⟩, _⟩ := h
  exact ⟨es, clock, hb⟩
/-- At the operation 'm[k] = v'. -/
theorem wpList_put (w : World) {b n : Nat} {f : ByteArray → Option Nat} {ops : Array Oper} {rest : List Oper} {o : Oper} {a : Act} {Q : Exit → Act → World → Prop} (hg : o.guard = none) (m x v : Operand) (t : TypeId) (hop : o.op = Op.mapUpdate t m x v) (ht : Try.prog.underlying t = some (.map 9 3))
    (hm : a.eval m = .map (some b)) (h : MapS w b n f) (hn : n < maxLen) (y : ByteArray) (l : Lit) (c : Nat) (hx : a.eval x = .string y) (hv : a.eval v = .int .i64 (c : Nat)) (hk : keyOf Try.prog 9 (.string y) = some l) (hc : c ≤ 9223372036854775807)
    (hK : ∀ w', MapS w' b (n + 1) (fun z => if z = y then some c else f z) → w.grownBy w' (some b) → wpList Try.prog ops Q rest (a.put o.dst undef) w') :
    wpList Try.prog ops Q (o :: rest) a w := by
  refine wpList_plain hg fun K' hK' => ?_
  obtain ⟨w', hrun, r1, r2⟩ := h.put ht hn hk hc
  unfold Oper.wp
  simp [execOp, hop, hm, hx, hv, hrun, Result.andThen]
  exact hK' _ _ (hK w' r1 r2)
theorem text_append (s t : List UInt8) : textOf s ++ textOf t = textOf (s ++ t) := by
  apply ByteArray.ext
  simp [textOf]
theorem text_size (s : List UInt8) : (textOf s).size = s.length := by simp [textOf, ByteArray.size]
/-- One merge is laid behind the others. -/
theorem mg_app (wr : World) (base : Nat) (v : Value) (l : List Mg) (x : Mg) (hown : OwnG 47 3 encG wr base v l) (hb : base ≤ wr.heap.size) (hl : l.length ≤ 8388608) :
    ∃ v' w', (Builtin.append_ #[24, 24] 24 #[v, .slice (some ⟨wr.heap.size, 0, none⟩) 1 1]).run Try.prog (wr.alloc (.cells #[.int .i64 x.l, .int .i64 x.r, .int .i64 x.i] 47)) = .ok v' w' ∧ OwnG 47 3 encG w' base v' (l ++ [x]) ∧ Bu wr.heap.size v.ownBlock wr.heap.size wr w' ∧ Moved v v' wr.heap.size := by
  obtain ⟨i0, hi0, hz0, hz1, hz2⟩ := info_parts infoMg
  have bx := box_below wr (.cells #[.int .i64 x.l, .int .i64 x.r, .int .i64 x.i] 47)
  obtain ⟨v', w', h1, h2, h3, h4⟩ := run_own_g 24 47 i0 _ 3 24 encG (fun _ => rfl) (by omega) encG_one Try.underlying24 hi0 hz0 hz1 hz2 rfl (wr.alloc (.cells #[.int .i64 x.l, .int .i64 x.r, .int .i64 x.i] 47)) base v l x wr.heap.size 1 (hown.below bx (Nat.le_refl _)) (heap_alloc_new wr _) (by simp; omega) (by omega) (by omega)
  refine ⟨v', w', h1, h2, ⟨h3.os.trans bx.os, h3.tape.trans bx.tape, h3.output.trans bx.output, Nat.le_trans bx.size h3.size, fun k hk hne ho => (h3.block k (by have := bx.size; omega) ho).trans (bx.block k hk)⟩, fun b hbb => ?_⟩
  rcases h4 b hbb with h | h
  · exact .inl h
  · exact .inr (Nat.le_trans bx.size h)
end Go.Proofs.Ytonbfcpbgkpbaab
end
