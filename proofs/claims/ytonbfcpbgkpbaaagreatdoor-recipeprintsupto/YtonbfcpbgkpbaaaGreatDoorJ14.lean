import Derived.Test.YtonbfcpbgkpbaaaGreatDoorJ12
import Derived.Test.YtonbfcpbgkpbaaaGreatDoorJ2
import Derived.RangeFuncNested
import Derived.RangeFuncBound
import Derived.RangeFuncCalls
import Derived.RangeFuncLeaves
import Derived.RangeFuncBox
import Derived.Shelf.Abstract
import Derived.Shelf.RegionOpen
import Derived.WalkKit
import Derived.OwnWalkIn
import Derived.TacticsInMore
import Derived.LoopNIn
import Derived.LoopIn
import Derived.Test.YtonbfcpbgkpbaaaGreatDoorJ13
import Derived.Test.YtonbfcpbgkpbaaaGreatDoorJ11
section
/- Rows of items in memory: appending one. -/
namespace Go.Proofs.YtonbfcpbgkpbaaaGreatDoor
open Go.RowKit
open Go.Joins
/-- An item's cells, and those of a row. -/
def cellI (x : It) : List Value := [.int .i64 (x.frm : Nat), .int .i64 (x.bytes : Nat), .int .i32 (x.rune : Nat), .bool x.bad]
def cellsI (l : List It) : List Value := l.flatMap cellI
theorem cellsI_length (l : List It) : (cellsI l).length = l.length * 4 := by
  induction l with
  | nil => rfl
  | cons x l ih => simp only [cellsI, List.flatMap_cons, List.length_append, List.length_cons] at ih ⊢; rw [ih]; simp [cellI]; omega
theorem cellsI_snoc (l : List It) (x : It) : cellsI (l ++ [x]) = cellsI l ++ cellI x := by simp [cellsI]
theorem cellI_one (x : It) : ∀ v ∈ cellI x, v.oneCell' = true := by
  intro v hv
  simp [cellI] at hv
  rcases hv with rfl | rfl | rfl | rfl <;> rfl
theorem cellI_cells (w : World) (b : Nat) (x : It) (T : TypeId) (fr : Nat × Nat) (h : w.heap[b]? = some (.cells (cellI x).toArray T fr)) : ∀ j u, (cellI x)[j]? = some u → w.cell? ((⟨b, 0, none⟩ : Addr).add j) = some u := by
  intro j u hu
  rw [cell_add, Nat.zero_add, cell_of_block h]
  simpa using hu
/-- The value v owns the items l: rows of type T (slices S). -/
def OwnI (T : TypeId) (w : World) (base : Nat) (v : Value) (l : List It) : Prop := w.ownsRow base T 4 v l.length (cellsI l) ∧ (v = .slice none 0 0 ↔ l = [])
theorem OwnI.nil (T : TypeId) (w : World) (base : Nat) : OwnI T w base (.slice none 0 0) [] := ⟨World.ownsRow_nil w base T 4, by simp⟩
theorem OwnI.below {T : TypeId} {w w' : World} {base : Nat} {v : Value} {l : List It} {B : Nat} (h : OwnI T w base v l) (hb : Below B w w') (hB : w.heap.size ≤ B) : OwnI T w' base v l := by
  refine ⟨⟨h.1.1, ?_⟩, h.2⟩
  rcases h.1.2 with h0 | ⟨g, cap, cur, hv, hg, hh, r⟩
  · exact .inl h0
  · refine .inr ⟨g, cap, cur, hv, hg, ?_, r⟩
    rw [hb.block g (Nat.lt_of_lt_of_le (Array.getElem?_eq_some_iff.1 hh).1 hB)]
    exact hh
/-- What an append to a row writes: nothing that lay; or the row alone, which has room for two at least. -/
def RowTurn (T : TypeId) (base : Nat) (W w' : World) : Prop := W.grownBy w' none ∨ ∃ g c, W.heap[g]? = some (.cells c T (0, 0)) ∧ c.size ≠ 4 ∧ base ≤ g ∧ W.grownBy w' (some g)
theorem RowTurn.below {T : TypeId} {base : Nat} {W w' : World} (h : RowTurn T base W w') (hb : base ≤ W.heap.size) : Below base W w' := by
  rcases h with h | ⟨g, c, _, _, hg, h⟩
  · exact (Below.refl base W).grown h hb (fun k hk => by cases hk)
  · exact (Below.refl base W).grown h hb (fun k hk => by cases hk; exact hg)
theorem run_own_it (S T : TypeId) (i0 : TypeInfo) (z : Value) (hS : Tryz.prog.underlying S = some (.slice T)) (hi : Tryz.prog.info? T = some i0) (hz0 : i0.zero = some z) (hz1 : i0.size = 4) (hz2 : i0.bytes = 24) (hzc : z.cells.size = 4)
    (W : World) (base : Nat) (v : Value) (l : List It) (x : It) (b cap : Nat) (hown : OwnI T W base v l) (hx : W.heap[b]? = some (.cells (cellI x).toArray T (0, 0))) (hb : base ≤ W.heap.size) (hsz : (l.length + 1) * 24 ≤ 140737488355328) :
    ∃ v' w', (Builtin.append_ #[S, S] S #[v, .slice (some ⟨b, 0, none⟩) 1 cap]).run Tryz.prog W = .ok v' w' ∧ OwnI T w' base v' (l ++ [x]) ∧ RowTurn T base W w' := by
  have hc := cellI_cells W b x T (0, 0) hx
  have hl4 : (cellI x).length = 1 * 4 := rfl
  have hend : ∀ (v' : Value) (w' : World), w'.ownsRow base T 4 v' (l.length + 1) (cellsI l ++ cellI x) → OwnI T w' base v' (l ++ [x]) := by
    intro v' w' h
    refine ⟨by rw [List.length_append, cellsI_snoc]; exact h, ?_⟩
    obtain ⟨g, cap, rfl⟩ := ownsRow_form h (by omega)
    simp
  rcases hown.1.2 with ⟨rfl, h0⟩ | ⟨g, cp, cur, rfl, hg, hh, hn, hm, hcs, ht⟩
  · obtain ⟨v', w', h1, h2, h3, _⟩ := run_append_own (P := Tryz.prog) W base S S T i0 z 4 24 hS hi hz0 hz1 hz2 hzc (by decide) (.slice none 0 0) l.length (cellsI l) hown.1 ⟨b, 0, none⟩ 1 cap (cellI x) hl4 hc (cellI_one x) (by unfold maxLen; omega) hsz hb
    exact ⟨v', w', h1, hend v' w' h2, .inl h3⟩
  · by_cases hroom : l.length < cp
    · obtain ⟨v', w', h1, h2, h3, _⟩ := run_append_own (P := Tryz.prog) W base S S T i0 z 4 24 hS hi hz0 hz1 hz2 hzc (by decide) (.slice (some ⟨g, 0, none⟩) l.length cp) l.length (cellsI l) hown.1 ⟨b, 0, none⟩ 1 cap (cellI x) hl4 hc (cellI_one x) (by unfold maxLen; omega) hsz hb
      refine ⟨v', w', h1, hend v' w' h2, .inr ⟨g, cur, hh, ?_, hg, h3⟩⟩
      have hl0 : l ≠ [] := fun e => by have := hown.2.2 e; cases this
      have := List.length_pos_iff.2 hl0
      omega
    · obtain ⟨v', w', h1, h2, h3⟩ := run_append_arg_grows (P := Tryz.prog) W S S T i0 z 4 24 hS hi hz0 hz1 hz2 hzc (by decide) ⟨g, 0, none⟩ l.length cp (cellsI l) (cellsI_length l) (fun j u hu => by
        have hj : j < l.length * 4 := by
          rw [← cellsI_length]
          exact (List.getElem?_eq_some_iff.1 hu).1
        rw [cell_add, Nat.zero_add, World.ownsRow.cellAt hown.1 j hj, hu]) ⟨b, 0, none⟩ 1 cap (cellI x) hl4 hc (by omega) (by unfold maxLen; omega) hsz
      exact ⟨v', w', h1, hend v' w' (ownsRow_le h2 hb), .inl h3⟩
end Go.Proofs.YtonbfcpbgkpbaaaGreatDoor
end
section
/- Appending inside a fence; what a row's turn keeps. -/
namespace Go.Proofs.YtonbfcpbgkpbaaaGreatDoor
open Go.RowKit Go.Shelf
open Go.Joins
attribute [local go_sem] Oper.semAt_some
theorem wpListIn_append_run {F : Fence} {n : Nat} {P : Program} {w : World} {ops : Array Oper} {rest : List Oper} {o : Oper} {a : Act} {Q : Exit → Act → World → Prop} (hgd : o.guard = none) (s x : Operand) (t tx : TypeId)
    (ho : o.op = .call { callee := .builtin .append, args := #[s, x], argTypes := #[t, tx] }) (v y : Value) (hs : a.eval s = v) (hx : a.eval x = y) (v' : Value) (w' : World)
    (hr : (Builtin.append_ #[t, tx] o.type #[v, y]).run P w = .ok v' w') (h : wpListIn F n P ops Q rest (a.put o.dst v') w') : wpListIn F n P ops Q (o :: rest) a w := by
  refine wpListIn_plain hgd fun K hK' => ?_
  unfold Oper.wpIn
  refine ⟨?_, ?_⟩
  · simp [Oper.about, ho, resolve, Target.leads, Sem.run_pure]
  · rw [Oper.semAt_plain F _ _ (by rw [ho]; intro c hc'; cases hc')]
    simp [execOp, ho, resolve, invoke, builtin, hs, hx, hr, Result.andThen]
    exact hK' _ _ h
theorem RowTurn.keeps {T : TypeId} {base : Nat} {A w' : World} (h : RowTurn T base A w') {k : Nat} {o : Obj} (hk : A.heap[k]? = some o) (hno : ∀ c, o = .cells c T (0, 0) → c.size = 4) : w'.heap[k]? = some o := by
  have hlt := (Array.getElem?_eq_some_iff.1 hk).1
  rcases h with h | ⟨g, c, hg, hc, _, h⟩
  · exact (h.block k hlt (by simp)).trans hk
  · refine (h.block k hlt (fun e => ?_)).trans hk
    obtain rfl : k = g := by simpa using e
    rw [hg] at hk
    exact hc (hno c (Option.some.inj hk).symm)
theorem RowTurn.others {T : TypeId} {base : Nat} {A w' : World} (h : RowTurn T base A w') : KeepsOthers A w' := by
  rcases h with h | ⟨g, c, hg, hc, _, h⟩
  · exact KeepsOthers.of_grownBy h (fun j o e _ => by cases e)
  · exact KeepsOthers.of_grownBy h (fun j o e hj => by cases e; rw [hg] at hj; cases hj; rfl)
end Go.Proofs.YtonbfcpbgkpbaaaGreatDoor
end
section
/- recipe.placeOf: its contract. -/
namespace Go.Proofs.YtonbfcpbgkpbaaaGreatDoor
open Go.RowKit Go.Shelf
open Go.Joins
set_option linter.unusedVariables false
set_option linter.unusedSimpArgs false
attribute [local go_sem] Oper.semAt_some
/-- The text ahead of byte y; its last line. -/
def aheadT (src : ByteArray) (y : Nat) : ByteArray := src.extract 0 y
def lineT (src : ByteArray) (y : Nat) : ByteArray := (aheadT src y).extract (Lib.lastIndexByte (aheadT src y) 10 + 1).toNat (aheadT src y).size
/-- Line and column of byte y. -/
def plT (src : ByteArray) (y : Nat) : Nat × Nat := (1 + Lib.countByte (aheadT src y).data.toList 10, 1 + (items 0 (tl (lineT src y))).length)
theorem keepsOthers_refl0 (W : World) : KeepsOthers W W := KeepsOthers.of_grownBy (row := none) ⟨rfl, rfl, rfl, Nat.le_refl _, fun _ _ _ => rfl⟩ (fun j o e _ => by cases e)
theorem block_own {β : Type} (B : Nat) (t : TypeId) (f : β → Array Value) : Own (fun s W => W.heap[B]? = some (.cells (f s) t (0, 0))) := fun s X Y row hs hg hrow =>
  (hg.block B (Array.getElem?_eq_some_iff.1 hs).1 (fun e' => by obtain ⟨o, ho, hc⟩ := hrow B e'.symm; rw [hs] at ho; cases ho; cases hc)).trans hs
set_option maxRecDepth 100000 in
set_option maxHeartbeats 4000000 in
theorem placeOf_upto (src : ByteArray) (y : Nat) (hs : y ≤ 4194304) (hy : y ≤ src.size) (w : World) :
    Calls Tryz.prog 45 #[.string src, .int .i64 (y : Nat)] w fun e w' => e = .returned (.agg #[.int .i64 (y : Nat), .int .i64 ((plT src y).1 : Nat), .int .i64 ((plT src y).2 : Nat)]) ∧ Below w.heap.size w w' := by
  have hasz : (aheadT src y).size = y := by unfold aheadT; rw [ByteArray.size_extract]; omega
  obtain ⟨q, hq⟩ : ∃ q, q = (plT src y).1 := ⟨_, rfl⟩
  have hc1 : (1 : Int) + (Lib.countByte (aheadT src y).data.toList 10 : Int) = (q : Int) := by rw [hq]; unfold plT; simp
  have hcq : Lib.countByte (aheadT src y).data.toList 10 ≤ 4194304 := by
    unfold Lib.countByte
    refine Nat.le_trans List.count_le_length ?_
    have : (aheadT src y).data.toList.length = (aheadT src y).size := Array.length_toList
    omega
  have hli : -1 ≤ Lib.lastIndexByte (aheadT src y) 10 ∧ Lib.lastIndexByte (aheadT src y) 10 < y := by
    rcases Lib.lastIndexByte_spec (aheadT src y) 10 with ⟨h1, _⟩ | ⟨i, h1, h2, _⟩ <;> omega
  obtain ⟨lz, hlz⟩ : ∃ lz : Nat, Lib.lastIndexByte (aheadT src y) 10 + 1 = (lz : Int) := ⟨(Lib.lastIndexByte (aheadT src y) 10 + 1).toNat, by omega⟩
  have hly : lz ≤ y := by omega
  have hlt : lineT src y = (aheadT src y).extract lz (aheadT src y).size := by unfold lineT; rw [hlz]; rfl
  have hcol : (plT src y).2 = 1 + (items 0 (tl (lineT src y))).length := rfl
  have HCO := Lib.hid hcol
  rw [← hq]
  have hlsz : (lineT src y).size ≤ 4194304 := by rw [hlt, ByteArray.size_extract]; omega
  have HC := count_one (aheadT src y) 10
  have HL := last_one (aheadT src y) 10 (by omega)
  obtain ⟨cb, hcb⟩ : ∃ cb, cb = Lib.countByte (aheadT src y).data.toList 10 := ⟨_, rfl⟩
  rw [← hcb] at HC hc1 hcq
  obtain ⟨li, hlv⟩ : ∃ li, li = Lib.lastIndexByte (aheadT src y) 10 := ⟨_, rfl⟩
  rw [show ((10 : UInt8).toNat : Int) = 10 from rfl] at HL
  rw [← hlv] at HL hli hlz
  obtain ⟨A, hA⟩ : ∃ A, A = aheadT src y := ⟨_, rfl⟩
  rw [← hA] at HC HL hasz hlt
  have hAx : src.extract 0 y = A := hA.symm
  obtain ⟨LT, hLT⟩ : ∃ LT, LT = lineT src y := ⟨_, rfl⟩
  rw [← hLT] at HCO hlsz hlt
  have hLx : A.extract lz y = LT := by rw [hlt, hasz]
  obtain ⟨col, hcl⟩ : ∃ col, col = (plT src y).2 := ⟨_, rfl⟩
  rw [← hcl] at HCO ⊢
  clear hA hcol hlt hcb hlv hq hLT hcl
  refine (callsIn_wide (n := 3)).1 ?_
  have h1 : 1 ≤ 3 := by omega
  have hN := items_length (tl LT) 0
  rw [tl_len] at hN
  have hnf : ∀ (wx : World) (lb : Array Value), (binOp BinOp.eql 99 (.func (.func 70) #[] lb) .nilFunc).run Tryz.prog wx = .ok (.bool false) wx := fun wx lb => by rfl
  refine callsIn_of_wp_marks Tryz.func45 rfl trivial ?_ rfl
  simp only [Tryz.ntmps45, List.size_toArray, List.length_cons, List.length_nil, Nat.reduceAdd, Nat.reduceSub, Array.replicate_succ, Array.replicate_zero, List.push_toArray, List.append_toArray, List.nil_append, List.cons_append]
  gi_wp2_with (first
    | (refine ⟨trivial, ?_⟩; gi_at_call 51; refine (callsIn_wide.2 (HC _)).mono ?_; rintro e w' ⟨rfl, rfl⟩)
    | (refine ⟨trivial, ?_⟩; gi_at_call 53; refine (callsIn_wide.2 (HL _)).mono ?_; rintro e w' ⟨rfl, rfl⟩)
    | (refine ⟨trivial, ?_⟩; gi_at_call 52; refine (items_in 2 LT _).mono ?_; rintro e w' ⟨rfl, rfl⟩))
  have b0 := heap_alloc_new w (.cells #[.int .i64 0, .int .i64 0, .int .i64 0] 69)
  have b1 := heap_alloc_new (w.alloc (.cells #[.int .i64 0, .int .i64 0, .int .i64 0] 69)) (.cells #[.int .i64 (y : Nat), .int .i64 (q : Nat), .int .i64 1] 69)
  have b2 := heap_alloc_new ((w.alloc (.cells #[.int .i64 0, .int .i64 0, .int .i64 0] 69)).alloc (.cells #[.int .i64 (y : Nat), .int .i64 (q : Nat), .int .i64 1] 69)) (.cells #[.string LT] 9)
  simp only [World.size_alloc] at b1 b2
  obtain ⟨W0, hW0⟩ : ∃ W0, W0 = ((w.alloc (.cells #[.int .i64 0, .int .i64 0, .int .i64 0] 69)).alloc (.cells #[.int .i64 (y : Nat), .int .i64 (q : Nat), .int .i64 1] 69)).alloc (.cells #[.string LT] 9) := ⟨_, rfl⟩
  rw [← hW0] at b2 ⊢
  have hB0 : Below w.heap.size w W0 := by rw [hW0]; exact (((Below.refl _ w).alloc (Nat.le_refl _) _).alloc (by simp) _).alloc (by simp; omega) _
  have hsz : W0.heap.size = w.heap.size + 3 := by rw [hW0]; simp
  have c1 : W0.heap[w.heap.size + 1]? = some (.cells #[.int .i64 (y : Nat), .int .i64 (q : Nat), .int .i64 1] 69 (0, 0)) := by
    rw [hW0, Below.heap_alloc _ _ _ (by simp)]
    exact b1
  have c0 : W0.heap[w.heap.size]? = some (.cells #[.int .i64 0, .int .i64 0, .int .i64 0] 69 (0, 0)) := by
    rw [hW0, Below.heap_alloc _ _ _ (by simp; omega), Below.heap_alloc _ _ _ (by simp)]
    exact b0
  clear hW0 b0 b1
  refine wpIn_rangeFunc_ownH rfl h1 (gf := 70) (lb := #[.pointer (some ⟨w.heap.size + 1 + 1, 0, none⟩)]) rfl trivial (enters_of Tryz.func70 (by kernel_rfl) rfl)
    (items_stops 2 (by omega) (w.heap.size + 1 + 1) LT (by omega) W0 (cell_of_one b2)) KpJ.trans (KpJ.putObj (by omega)) (Below.refl _ _) (fun _ => rfl)
    (fun pre W => (W.heap[w.heap.size + 1]? = some (.cells #[.int .i64 (y : Nat), .int .i64 (q : Nat), .int .i64 (1 + pre.length : Nat)] 69 (0, 0)) ∧ W.heap[w.heap.size]? = some (.cells #[.int .i64 0, .int .i64 0, .int .i64 0] 69 (0, 0))) ∧ Below w.heap.size w W)
    (fun _ _ _ => False)
    (OwnFrom.and (OwnFrom.and (Own.from (block_own (w.heap.size + 1) 69 (fun pre : List It => #[.int .i64 (y : Nat), .int .i64 (q : Nat), .int .i64 (1 + pre.length : Nat)])) _) (Own.from (block_own w.heap.size 69 (fun _ : List It => #[.int .i64 0, .int .i64 0, .int .i64 0])) _)) (ownFrom_below (Nat.le_refl _) (by omega)))
    (fun _ _ _ _ _ hs _ _ => hs)
    ⟨⟨c1, c0⟩, hB0⟩
    (fun x a' W => a' = { tmps := #[.string src, .int .i64 (y : Nat), undef, undef, .pointer (some ⟨w.heap.size, 0, none⟩), .string A, .pointer (some ⟨w.heap.size + 1, 0, none⟩), .string src, .int .i64 (y : Nat), .string A, .int .i64 (y : Nat), .string A, .int .i64 (cb : Nat), .int .i64 (q : Nat), .agg #[.int .i64 (y : Nat), .int .i64 (q : Nat), .int .i64 1], .string A, .string A, .int .i64 li, .int .i64 (lz : Nat), .string LT, .func (.func 70) #[] #[.pointer (some ⟨w.heap.size + 1 + 1, 0, none⟩)], itv x, undef, undef, undef, undef, undef], defers := [] })
    (fun x a' _ X Y row hs hg hr => hs)
    ?assign ?body ?done ?stop
  case assign =>
    rintro l pre x W K hI hK
    gi_wp2
    exact hK _ _ ((keepsOthers_refl0 W).from _) (KpJ.refl _ W) hI (by simp)
  case body =>
    rintro l pre x a' W hl ⟨r, hr⟩ ⟨⟨hx, hr0⟩, hB⟩ rfl hlt
    have d2 : W.cell? ⟨w.heap.size + 1, 2, none⟩ = some (.int .i64 (1 + pre.length : Nat)) := by rw [cell_of_row W _ 2 _ _ _ hx]; rfl
    have f2 : W.frozen? ⟨w.heap.size + 1, 2, none⟩ = false := frozen_of_row W _ 2 _ _ hx
    have hst := heap_setCell_same W (w.heap.size + 1) 2 _ _ (.int .i64 (1 + (pre ++ [x]).length : Nat)) hx
    have hpl : (pre ++ [x]).length = pre.length + 1 := by simp
    rw [hpl] at hst
    obtain ⟨k, hk⟩ : ∃ k, k = 1 + pre.length := ⟨_, rfl⟩
    rw [← hk] at d2 hx
    rw [show 1 + (pre.length + 1) = k + 1 by omega] at hst
    have hkb : k ≤ 4194305 := by omega
    have HK := Lib.hid hk
    clear hk hpl
    gi_wp2
    refine ⟨(KeepsOthers.setCell _ _ _).from _, ?_, ⟨?_, ?_⟩, ?_⟩
    · refine ⟨by simp, heap_setCell_other W ⟨w.heap.size + 1, 2, none⟩ _ _ (by show w.heap.size + 1 + 1 ≠ w.heap.size + 1; omega), fun j c hj hc => heap_setCell_other W ⟨w.heap.size + 1, 2, none⟩ j _ (fun e => ?_)⟩
      have e' : j = w.heap.size + 1 := e
      subst e'
      rw [hx] at hj
      injection hj with hj
      injection hj with hj _ _
      rw [← hj] at hc
      simp at hc
    · rw [show (pre ++ [x]).length = pre.length + 1 by simp, show 1 + (pre.length + 1) = k + 1 by rw [HK.out]; omega]
      exact hst
    · exact (heap_setCell_other W ⟨w.heap.size + 1, 2, none⟩ _ _ (by show w.heap.size ≠ w.heap.size + 1; omega)).trans hr0
    · exact hB.setCell (p := ⟨w.heap.size + 1, 2, none⟩) (by show w.heap.size ≤ w.heap.size + 1; omega) _
  case done =>
    rintro D ys W hD rfl ⟨⟨hx, hr0⟩, hB⟩ hK
    rw [← HCO.out] at hx
    have c0 : W.cell? ⟨w.heap.size, 0, none⟩ = some (.int .i64 0) := by rw [cell_of_row W _ 0 _ _ _ hr0]; rfl
    have c1 : W.cell? ⟨w.heap.size, 1, none⟩ = some (.int .i64 0) := by rw [cell_of_row W _ 1 _ _ _ hr0]; rfl
    have c2 : W.cell? ⟨w.heap.size, 2, none⟩ = some (.int .i64 0) := by rw [cell_of_row W _ 2 _ _ _ hr0]; rfl
    have d0 : W.cell? ⟨w.heap.size + 1, 0, none⟩ = some (.int .i64 (y : Nat)) := by rw [cell_of_row W _ 0 _ _ _ hx]; rfl
    have d1 : W.cell? ⟨w.heap.size + 1, 1, none⟩ = some (.int .i64 (q : Nat)) := by rw [cell_of_row W _ 1 _ _ _ hx]; rfl
    have d2 : W.cell? ⟨w.heap.size + 1, 2, none⟩ = some (.int .i64 (col : Nat)) := by rw [cell_of_row W _ 2 _ _ _ hx]; rfl
    have f0 : W.frozen? ⟨w.heap.size, 0, none⟩ = false := frozen_of_row W _ 0 _ _ hr0
    have f1 : W.frozen? ⟨w.heap.size, 1, none⟩ = false := frozen_of_row W _ 1 _ _ hr0
    have f2 : W.frozen? ⟨w.heap.size, 2, none⟩ = false := frozen_of_row W _ 2 _ _ hr0
    have hz1 := heap_setCell_same W w.heap.size 0 _ _ (.int .i64 (y : Nat)) hr0
    have hz2 := heap_setCell_same _ w.heap.size 1 _ _ (.int .i64 (q : Nat)) hz1
    have hz3 := heap_setCell_same _ w.heap.size 2 _ _ (.int .i64 (col : Nat)) hz2
    gi_wp2
    have hDn : D ≠ w.heap.size := by omega
    have hK3 : (((W.setCell ⟨w.heap.size, 0, none⟩ (.int .i64 (y : Nat))).setCell ⟨w.heap.size, 1, none⟩ (.int .i64 (q : Nat))).setCell ⟨w.heap.size, 2, none⟩ (.int .i64 (col : Nat))).heap[D]? = some (.deferred (some [])) := by
      rw [heap_setCell_other _ ⟨w.heap.size, 2, none⟩ D _ hDn, heap_setCell_other _ ⟨w.heap.size, 1, none⟩ D _ hDn, heap_setCell_other _ ⟨w.heap.size, 0, none⟩ D _ hDn]
      exact hK
    have hB3 : Below w.heap.size w (((W.setCell ⟨w.heap.size, 0, none⟩ (.int .i64 (y : Nat))).setCell ⟨w.heap.size, 1, none⟩ (.int .i64 (q : Nat))).setCell ⟨w.heap.size, 2, none⟩ (.int .i64 (col : Nat))) :=
      ((hB.setCell (p := ⟨w.heap.size, 0, none⟩) (Nat.le_refl _) _).setCell (p := ⟨w.heap.size, 1, none⟩) (Nat.le_refl _) _).setCell (p := ⟨w.heap.size, 2, none⟩) (Nat.le_refl _) _
    obtain ⟨Z, hZ⟩ : ∃ Z, Z = (((W.setCell ⟨w.heap.size, 0, none⟩ (.int .i64 (y : Nat))).setCell ⟨w.heap.size, 1, none⟩ (.int .i64 (q : Nat))).setCell ⟨w.heap.size, 2, none⟩ (.int .i64 (col : Nat))) := ⟨_, rfl⟩
    rw [← hZ] at hK3 hB3 hz3 ⊢
    clear hZ
    refine ⟨by simp, .inl ⟨_, _, rfl, run_takeDeferred hK3, ?_⟩⟩
    have z3 : (Z.putObj D (.deferred none)).heap[w.heap.size]? = _ := (World.putObj_heap_other hDn.symm).trans hz3
    obtain ⟨U, hU⟩ : ∃ U, U = Z.putObj D (.deferred none) := ⟨_, rfl⟩
    have hBU : Below w.heap.size w U := by
      rw [hU]
      exact hB3.trans ⟨rfl, rfl, rfl, by simp [World.putObj], fun k hk => World.putObj_heap_other (by omega)⟩
    rw [← hU] at z3 ⊢
    have e0 : U.cell? ⟨w.heap.size, 0, none⟩ = some (.int .i64 (y : Nat)) := by rw [cell_of_row U _ 0 _ _ _ z3]; rfl
    have e1 : U.cell? ⟨w.heap.size, 1, none⟩ = some (.int .i64 (q : Nat)) := by rw [cell_of_row U _ 1 _ _ _ z3]; rfl
    have e2 : U.cell? ⟨w.heap.size, 2, none⟩ = some (.int .i64 (col : Nat)) := by rw [cell_of_row U _ 2 _ _ _ z3]; rfl
    exact ⟨.agg #[.int .i64 (y : Nat), .int .i64 (q : Nat), .int .i64 (col : Nat)], by simp [results, Tryz.results45, go_sem, e0, e1, e2], rfl, hBU⟩
  case stop =>
    rintro D c pre W _ _ h _
    exact h.elim
theorem placeOf_any (src : ByteArray) (y : Nat) (hs : src.size ≤ 4194304) (hy : y ≤ src.size) (w : World) :
    Calls Tryz.prog 45 #[.string src, .int .i64 (y : Nat)] w fun e w' => e = .returned (.agg #[.int .i64 (y : Nat), .int .i64 ((plT src y).1 : Nat), .int .i64 ((plT src y).2 : Nat)]) ∧ Below w.heap.size w w' :=
  placeOf_upto src y (by omega) hy w
end Go.Proofs.YtonbfcpbgkpbaaaGreatDoor
end
section
/- recipe.areRunes of none, of one that is none: its contracts. -/
namespace Go.Proofs.YtonbfcpbgkpbaaaGreatDoor
open Go.RowKit Go.Sort Go.Joins
set_option linter.unusedVariables false
set_option linter.unusedSimpArgs false
set_option maxRecDepth 100000
set_option maxHeartbeats 1000000 in
theorem runes_nil (w : World) : Calls Tryz.prog 17 #[.slice none 0 0] w fun e w' => e = .returned (.bool true) ∧ w' = w := by
  go_enter Tryz.func17, Tryz.ntmps17
  go_wp2_with fail
  go_loopw [4, 7] (fun x i wr => i = .int .i64 0 ∧ wr = w) (fun _ _ _ => 0)
  case atStart => exact ⟨rfl, rfl⟩
  case round =>
    obtain ⟨rfl, hw⟩ := hrel
    rw [hw]
    go_wp2_with fail
    go_ret
    exact ⟨rfl, rfl⟩
set_option maxHeartbeats 1000000 in
theorem runes_bad (g : Nat) (w : World) (h : w.heap[g]? = some (.cells #[.int .i32 (-1), .int .i32 4] 41 (0, 0))) : Calls Tryz.prog 17 #[.slice (some ⟨g, 0, none⟩) 1 1] w fun e w' => e = .returned (.bool false) ∧ Below w.heap.size w w' := by
  have c0 : w.cell? ⟨g, 0, none⟩ = some (.int .i32 (-1)) := by rw [cell_of_block h]; rfl
  have c1 : w.cell? ⟨g, 1, none⟩ = some (.int .i32 4) := by rw [cell_of_block h]; rfl
  clear h
  go_enter Tryz.func17, Tryz.ntmps17
  go_wp2_with fail
  go_loopw [4, 7] (fun x i wr => i = .int .i64 0 ∧ wr = w) (fun _ _ _ => 0)
  case atStart => exact ⟨rfl, rfl⟩
  case round =>
    obtain ⟨rfl, hw⟩ := hrel
    rw [hw]
    go_wp2
    go_ret
    exact ⟨rfl, box_below w _⟩
end Go.Proofs.YtonbfcpbgkpbaaaGreatDoor
end
section
/- recipe.class without spans: its contract. -/
namespace Go.Proofs.YtonbfcpbgkpbaaaGreatDoor
open Go.RowKit Go.Sort Go.Joins
set_option linter.unusedVariables false
set_option linter.unusedSimpArgs false
set_option maxRecDepth 100000
theorem wp_named8 {P : Program} {c : Code} {Q : Exit → Act → World → Prop} {a : Act} {w : World} (h : ∀ X, X = w → c.wp P Q a X) : c.wp P Q a w := h w rfl
set_option maxHeartbeats 2000000 in
theorem class_nil (nm : List UInt8) (w : World) : Calls Tryz.prog 20 #[.string (textOf nm), .slice none 0 0] w fun e w' => ∃ v, e = .returned v ∧ OwnG 9 1 encS1 w' w.heap.size v [nm, [123], [125]] ∧ Below w.heap.size w w' := by
  obtain ⟨x, hx⟩ : ∃ x, x = textOf nm := ⟨_, rfl⟩
  have HX := Lib.hid hx
  rw [← hx]
  clear hx
  go_enter Tryz.func20, Tryz.ntmps20
  go_wp2_with fail
  refine wp_named8 fun X hX => ?_
  go_loopw [5, 7, 12] (fun x y i wr => x = .slice (some ⟨w.heap.size, 0, none⟩) 2 2 ∧ i = .int .i64 0 ∧ wr = X) (fun _ _ _ _ => 0)
  case atStart => exact ⟨rfl, rfl, rfl⟩
  case round =>
    obtain ⟨rfl, rfl, hw⟩ := hrel
    rw [hw]
    have hb1 : Below w.heap.size w X := by rw [hX]; exact box_below w _
    have hO : OwnG 9 1 encS1 X w.heap.size (.slice (some ⟨w.heap.size, 0, none⟩) 2 2) [nm, [123]] := by
      refine ⟨rfl, .inr ⟨w.heap.size, 2, _, rfl, Nat.le_refl _, by rw [hX]; exact heap_alloc_new w _, Nat.le_refl _, by decide, rfl, ?_⟩⟩
      rw [HX.out]
      rfl
    obtain ⟨i0, hi, hz0, hz1, hz2⟩ := info_parts infoStr
    obtain ⟨v, w2, hr, hO2, hg2, hm2⟩ := run_own_g 22 9 i0 _ 1 16 encS1 (fun _ => rfl) (by omega) (fun x v hv => by simp only [encS1, List.mem_singleton] at hv; rw [hv]; rfl) Tryz.underlying22 hi hz0 hz1 hz2 rfl (X.alloc (.cells #[.string ⟨#[125]⟩] 9)) w.heap.size (.slice (some ⟨w.heap.size, 0, none⟩) 2 2) [nm, [123]] [125] X.heap.size 1 (hO.below (box_below X _) (Nat.le_refl _)) (heap_alloc_new X _) (by rw [World.size_alloc]; have := hb1.size; omega) (by simp) (by simp)
    have hb2 : Below w.heap.size w w2 := (hb1.alloc hb1.size _).grown hg2 (by rw [World.size_alloc]; have := hb1.size; omega) (fun k hk => by cases hk; exact Nat.le_refl _)
    obtain ⟨av, cv, rfl⟩ := hO2.slice
    clear hO hm2 hg2 hX
    go_wp2_with (at_builtin; refine wpList_append_run rfl (.tmp 34) (.tmp 35) 22 22 rfl _ _ rfl rfl _ w2 hr ?_; clear hr)
    go_ret
    exact ⟨_, rfl, hO2, hb2⟩
end Go.Proofs.YtonbfcpbgkpbaaaGreatDoor
end
section
/- recipe.Print of data without merges and spans, and of what it refuses in chapter 7's runs: the contracts. -/
namespace Go.Proofs.YtonbfcpbgkpbaaaGreatDoor
open Go.RowKit Go.Sort Go.Joins
set_option linter.unusedVariables false
set_option linter.unusedSimpArgs false
set_option maxRecDepth 100000
theorem toks {w : World} {base : Nat} {v : Value} {ts : List (List UInt8)} (h : OwnG 9 1 encS1 w base v ts) (hl : 0 < ts.length) : ∃ tb c cur, v = .slice (some ⟨tb, 0, none⟩) ts.length c ∧ w.heap[tb]? = some (.cells cur 9 (0, 0)) ∧ ∀ i, i < ts.length → cur[i]? = some (.string (textOf (ts.getD i []))) := by
  rcases h.2 with ⟨hv, h0⟩ | ⟨tb, c, cur, hv, hg, hh, hn, hm, hcs, ht⟩
  · omega
  · refine ⟨tb, c, cur, hv, hh, fun i hi => ?_⟩
    have q0 : (ts.flatMap encS1)[i]? = some (.string (textOf (ts.getD i []))) := by
      rw [flat_one, List.getElem?_map, List.getElem?_eq_getElem hi]
      simp [List.getD, List.getElem?_eq_getElem hi]
    rw [← ht, List.getElem?_take_of_lt (by omega)] at q0
    simpa using q0
theorem BI.below {w w' : World} {b base : Nat} {v : Value} {acc : List UInt8} (h : BI w b base v acc) (hb : Below w.heap.size w w') : BI w' b base v acc := by
  obtain ⟨p, hp, h1⟩ := h.at_
  exact ⟨⟨p, hp, (hb.block b h.lt).trans h1⟩, h.row.below hb (Nat.le_refl _)⟩
theorem BI.wrote_below {w w' : World} {b : Nat} {v : Value} {acc : List UInt8} (h : BI w b b v acc) (hb : Bu b v.ownBlock w.heap.size w w') : Below b w w' :=
  ⟨hb.os, hb.tape, hb.output, hb.size, fun k hk => hb.block k (by have := h.lt; omega) (by omega) (fun e => by
    rcases h.row.2 with ⟨hv, _⟩ | ⟨g, cp, cur, hv, hg, _⟩
    · rw [hv] at e; cases e
    · rw [hv] at e
      have : k = g := by simpa [Value.ownBlock] using e
      have := h.lt
      omega)⟩
def nmL : List UInt8 := [108, 101, 116, 116, 101, 114, 115]
def nmN : List UInt8 := [110, 117, 109, 98, 101, 114, 115]
def nmS : List UInt8 := [115, 112, 97, 99, 101, 115]
def ln (nm : List UInt8) : List UInt8 := jn [nm, [123], [125]] 3 ++ [10]
def noText : List UInt8 := ln nmL ++ ln nmN ++ ln nmS
theorem jn_fits (nm acc : List UInt8) (ha : acc.length ≤ 100) (hn : nm.length ≤ 100) : ∀ k, k ≤ [nm, [123], [125]].length → acc.length + (jn [nm, [123], [125]] k).length + 1 ≤ 140737488355328 := by
  intro k hk
  have : k = 0 ∨ k = 1 ∨ k = 2 ∨ k = 3 := by simp only [List.length_cons, List.length_nil] at hk; omega
  rcases this with rfl | rfl | rfl | rfl <;> simp [jn, List.range_succ] <;> omega
abbrev nilD : Value := .agg #[.slice none 0 0, .slice none 0 0, .slice none 0 0, .slice none 0 0, .slice none 0 0]
set_option maxHeartbeats 4000000 in
theorem print_no (w : World) : Calls Tryz.prog 6 #[.agg #[.slice none 0 0, .slice none 0 0, .slice none 0 0, .slice none 0 0, .slice none 0 0]] w fun e w' => e = .returned (.tuple #[.string (textOf noText), .int .i64 0]) ∧ Below w.heap.size w w' := by
  have hD := DBox.new w (.slice none 0 0) (.slice none 0 0) (.slice none 0 0) (.slice none 0 0) (.slice none 0 0)
  have hb0 := box_below w (.cells #[.slice none 0 0, .slice none 0 0, .slice none 0 0, .slice none 0 0, .slice none 0 0] 26)
  obtain ⟨Y, hY⟩ : ∃ Y, Y = w.alloc (.cells #[.slice none 0 0, .slice none 0 0, .slice none 0 0, .slice none 0 0, .slice none 0 0] 26) := ⟨_, rfl⟩
  rw [← hY] at hb0 hD
  have HY := Lib.hid hY
  have HB0 := Lib.hid hb0
  clear hY hb0
  obtain ⟨z, hz⟩ : ∃ z, z = w.heap.size := ⟨_, rfl⟩
  have HZ := Lib.hid hz
  rw [← hz] at hD
  clear hz
  have HD := Lib.hid hD
  have x0 := hD.c0
  have x1 := hD.c1
  have hmf : ∀ (fn : Fn) (first cap : Array Value) (w : World), (Instr.makeFunc fn first cap).run Tryz.prog w = .ok (.func fn first cap) w := fun _ _ _ _ => rfl
  clear hD
  go_enter Tryz.func6, Tryz.ntmps6
  go_upto_region 2 with fail
  rw [← HY.out, ← HZ.out]
  clear HY
  go_wp2_with fail
  refine (unlike_nil Y).mono ?_
  rintro e w1 ⟨rfl, hb1⟩
  have hD1 := HD.out.below hb1 HD.out.lt
  have HD1 := Lib.hid hD1
  have HB1 := Lib.hid (HB0.out.trans (hb1.mono HB0.out.size))
  have x0 := hD1.c0
  have x1 := hD1.c1
  clear hD1 hb1 HD HB0
  go_wp2_with fail
  refine (made_nil _ w1).mono ?_
  rintro e w2 ⟨rfl, hb2⟩
  have hD2 := HD1.out.below hb2 HD1.out.lt
  have HD2 := Lib.hid hD2
  have HB2 := Lib.hid (HB1.out.trans (hb2.mono HB1.out.size))
  have x2 := hD2.c2
  have x3 := hD2.c3
  have x4 := hD2.c4
  have x1 := hD2.c1
  clear hD2 hb2 HD1 HB1
  go_wp2_with fail
  refine (runes_nil w2).mono ?_
  rintro e w3 ⟨rfl, hw3⟩
  rw [hw3]
  clear hw3 w3
  go_wp2_with fail
  refine (runes_nil w2).mono ?_
  rintro e w3 ⟨rfl, hw3⟩
  rw [hw3]
  clear hw3 w3
  go_wp2_with fail
  refine (runes_nil w2).mono ?_
  rintro e w3 ⟨rfl, hw3⟩
  rw [hw3]
  clear hw3 w3
  have hbl := heap_alloc_new w2 (.cells #[.pointer none, .slice none 0 0] 57)
  have hbb := box_below w2 (.cells #[.pointer none, .slice none 0 0] 57)
  obtain ⟨V, hV⟩ : ∃ V, V = w2.alloc (.cells #[.pointer none, .slice none 0 0] 57) := ⟨_, rfl⟩
  have hVs : V.heap.size = w2.heap.size + 1 := by rw [hV]; simp
  rw [← hV] at hbl hbb
  have HV := Lib.hid hV
  clear hV
  obtain ⟨b, hbz⟩ : ∃ b, b = w2.heap.size := ⟨_, rfl⟩
  rw [← hbz] at hbl hVs
  have HBZ := Lib.hid hbz
  have hI0 : BI V b b (.slice none 0 0) [] := ⟨⟨_, .inl rfl, hbl⟩, rfl, .inl ⟨rfl, rfl⟩⟩
  have hDV := HD2.out.below hbb HD2.out.lt
  have hzb : z < b := by rw [hbz]; exact HD2.out.lt
  have HI0 := Lib.hid hI0
  have HDV := Lib.hid hDV
  have HBV := Lib.hid (HB2.out.trans (hbb.mono HB2.out.size))
  have HVS := Lib.hid hVs
  have x1 := hDV.c1
  have x2 := hDV.c2
  clear hI0 hDV hbl hbb hbz HD2 hVs
  go_upto_region 7 with fail
  rw [← HV.out, ← HBZ.out]
  clear HV x3 x4
  go_wp2_with fail
  go_loopw [7, 48] (fun x i wr => i = .int .i64 0 ∧ wr = V) (fun _ _ _ => 0)
  case atStart => exact ⟨rfl, rfl⟩
  case round =>
    obtain ⟨rfl, hw⟩ := hrel
    rw [hw]
    clear hw wr
    go_wp2_with fail
    refine (class_nil nmL V).mono ?_
    rintro e w4 ⟨v4, rfl, hO4, hb4⟩
    obtain ⟨t4, c4, cur4, rfl, hT4, hc4⟩ := toks hO4 (by decide)
    have hI4 := HI0.out.below hb4
    have hD4 := HDV.out.below hb4 HDV.out.lt
    have hs4 := hb4.size
    have HB4 := Lib.hid (HBV.out.trans (hb4.mono HBV.out.size))
    have hW4 := writeLine_any b b _ _ t4 c4 cur4 [nmL, [123], [125]] w4 hI4 (by have := HVS.out; omega) hT4 hc4 (jn_fits nmL [] (by decide) (by decide)) (by decide)
    have HI4 := Lib.hid hI4
    have HD4 := Lib.hid hD4
    clear hI4 hD4 hO4 hb4 hT4 hc4 x2
    go_wp2_with fail
    refine hW4.mono ?_
    rintro e w5 ⟨rfl, v5, hI5, hB5, hM5⟩
    have hb5 := HI4.out.wrote_below hB5
    have hD5 := HD4.out.below hb5 hzb
    have HB5 := Lib.hid (HB4.out.trans (hb5.mono (by have := HBZ.out; have := HB2.out.size; omega)))
    have HI5 := Lib.hid hI5
    have HD5 := Lib.hid hD5
    have hs5 := hb5.size
    have x3 := hD5.c3
    clear hW4 hI5 hB5 hM5 hb5 hD5 HI4 HD4 HB4
    go_wp2_with fail
    refine (class_nil nmN w5).mono ?_
    rintro e w6 ⟨v6, rfl, hO6, hb6⟩
    obtain ⟨t6, c6, cur6, rfl, hT6, hc6⟩ := toks hO6 (by decide)
    have hI6 := HI5.out.below hb6
    have hD6 := HD5.out.below hb6 HD5.out.lt
    have hs6 := hb6.size
    have HB6 := Lib.hid (HB5.out.trans (hb6.mono HB5.out.size))
    have hW6 := writeLine_any b b _ _ t6 c6 cur6 [nmN, [123], [125]] w6 hI6 (by have := HVS.out; omega) hT6 hc6 (jn_fits nmN _ (by decide) (by decide)) (by decide)
    have HI6 := Lib.hid hI6
    have HD6 := Lib.hid hD6
    clear hI6 hD6 hO6 hb6 hT6 hc6 x3
    go_wp2_with fail
    refine hW6.mono ?_
    rintro e w7 ⟨rfl, v7, hI7, hB7, hM7⟩
    have hb7 := HI6.out.wrote_below hB7
    have hD7 := HD6.out.below hb7 hzb
    have HB7 := Lib.hid (HB6.out.trans (hb7.mono (by have := HBZ.out; have := HB2.out.size; omega)))
    have HI7 := Lib.hid hI7
    have HD7 := Lib.hid hD7
    have hs7 := hb7.size
    have x4 := hD7.c4
    clear hW6 hI7 hB7 hM7 hb7 hD7 HI6 HD6 HB6
    go_wp2_with fail
    refine (class_nil nmS w7).mono ?_
    rintro e w8 ⟨v8, rfl, hO8, hb8⟩
    obtain ⟨t8, c8, cur8, rfl, hT8, hc8⟩ := toks hO8 (by decide)
    have hI8 := HI7.out.below hb8
    have hs8 := hb8.size
    have HB8 := Lib.hid (HB7.out.trans (hb8.mono HB7.out.size))
    have hW8 := writeLine_any b b _ _ t8 c8 cur8 [nmS, [123], [125]] w8 hI8 (by have := HVS.out; omega) hT8 hc8 (jn_fits nmS _ (by decide) (by decide)) (by decide)
    have HI8 := Lib.hid hI8
    clear hI8 hO8 hb8 hT8 hc8 x4
    go_wp2_with fail
    refine hW8.mono ?_
    rintro e w9 ⟨rfl, v9, hI9, hB9, hM9⟩
    have hb9 := HI8.out.wrote_below hB9
    have HB9 := Lib.hid (HB8.out.trans (hb9.mono (by have := HBZ.out; have := HB2.out.size; omega)))
    have hs9 := hb9.size
    have hS := string_any b b v9 _ w9 hI9 (by simp) (by have := HVS.out; omega)
    clear hW8 hI9 hB9 hM9 hb9 HI8 HB8
    go_wp2_with fail
    refine hS.mono ?_
    rintro e w10 ⟨rfl, hb10⟩
    have hbw : w.heap.size ≤ b := by have := HBZ.out; have := HB2.out.size; omega
    clear hS
    go_wp2_with fail
    go_ret2
    exact ⟨rfl, HB9.out.trans (hb10.mono hbw)⟩
theorem print_words (a : Option Addr) (c : Nat) (w : World) : Calls Tryz.prog 6 #[.agg #[.slice a 1 c, .slice none 0 0, .slice none 0 0, .slice none 0 0, .slice none 0 0]] w fun e w' => e = .returned (.tuple #[.string ⟨#[]⟩, .int .i64 21]) ∧ Below w.heap.size w w' := by
  have hmf : ∀ (fn : Fn) (first cap : Array Value) (w : World), (Instr.makeFunc fn first cap).run Tryz.prog w = .ok (.func fn first cap) w := fun _ _ _ _ => rfl
  go_enter Tryz.func6, Tryz.ntmps6
  go_wp2_with fail
  go_ret2
  exact ⟨rfl, box_below w _⟩
set_option maxHeartbeats 2000000 in
theorem print_runes (g : Nat) (w : World) (hg : w.heap[g]? = some (.cells #[.int .i32 (-1), .int .i32 4] 41 (0, 0))) : Calls Tryz.prog 6 #[.agg #[.slice none 0 0, .slice none 0 0, .slice (some ⟨g, 0, none⟩) 1 1, .slice none 0 0, .slice none 0 0]] w fun e w' => e = .returned (.tuple #[.string ⟨#[]⟩, .int .i64 14]) ∧ Below w.heap.size w w' := by
  have hD := DBox.new w (.slice none 0 0) (.slice none 0 0) (.slice (some ⟨g, 0, none⟩) 1 1) (.slice none 0 0) (.slice none 0 0)
  have hb0 := box_below w (.cells #[.slice none 0 0, .slice none 0 0, .slice (some ⟨g, 0, none⟩) 1 1, .slice none 0 0, .slice none 0 0] 26)
  have hlg := (Array.getElem?_eq_some_iff.1 hg).1
  obtain ⟨Y, hY⟩ : ∃ Y, Y = w.alloc (.cells #[.slice none 0 0, .slice none 0 0, .slice (some ⟨g, 0, none⟩) 1 1, .slice none 0 0, .slice none 0 0] 26) := ⟨_, rfl⟩
  rw [← hY] at hb0 hD
  have HY := Lib.hid hY
  have HB0 := Lib.hid hb0
  clear hY hb0
  obtain ⟨z, hz⟩ : ∃ z, z = w.heap.size := ⟨_, rfl⟩
  have HZ := Lib.hid hz
  rw [← hz] at hD
  clear hz
  have HD := Lib.hid hD
  have HG := Lib.hid hg
  have x0 := hD.c0
  have x1 := hD.c1
  have hmf : ∀ (fn : Fn) (first cap : Array Value) (w : World), (Instr.makeFunc fn first cap).run Tryz.prog w = .ok (.func fn first cap) w := fun _ _ _ _ => rfl
  clear hD hg
  go_enter Tryz.func6, Tryz.ntmps6
  go_upto_region 2 with fail
  rw [← HY.out, ← HZ.out]
  clear HY
  go_wp2_with fail
  refine (unlike_nil Y).mono ?_
  rintro e w1 ⟨rfl, hb1⟩
  have hD1 := HD.out.below hb1 HD.out.lt
  have HD1 := Lib.hid hD1
  have HB1 := Lib.hid (HB0.out.trans (hb1.mono HB0.out.size))
  have x0 := hD1.c0
  have x1 := hD1.c1
  clear hD1 hb1 HD HB0
  go_wp2_with fail
  refine (made_nil _ w1).mono ?_
  rintro e w2 ⟨rfl, hb2⟩
  have hD2 := HD1.out.below hb2 HD1.out.lt
  have HB2 := Lib.hid (HB1.out.trans (hb2.mono HB1.out.size))
  have x2 := hD2.c2
  have hR := runes_bad g w2 ((HB2.out.block g hlg).trans HG.out)
  clear hD2 hb2 HD1 HB1
  go_wp2_with fail
  refine hR.mono ?_
  rintro e w3 ⟨rfl, hb3⟩
  clear hR
  go_wp2_with fail
  go_ret2
  exact ⟨rfl, HB2.out.trans (hb3.mono HB2.out.size)⟩
end Go.Proofs.YtonbfcpbgkpbaaaGreatDoor
end
section
/- recipe.Print: its answer as a plain function; sizes. -/
namespace Go.Proofs.YtonbfcpbgkpbaaaGreatDoor
open Go.RowKit Go.Sort Go.Joins
set_option linter.unusedVariables false
set_option linter.unusedSimpArgs false
set_option maxRecDepth 100000
theorem PT.stays {w w' : World} (h : PT w) (hb : Below w.heap.size w w') : PT w' := tab_stays gPow h hb (Nat.le_refl _)
/-- What Print answers. -/
def printF (ws : List ByteArray) (ms : List Mg) (A B C : List Sp) : List UInt8 × Nat :=
  if wordsOk ws ms = true then (if runesOk A B C = true then (textF [10] (linesF ws ms A B C), 0) else ([], 14)) else ([], 21)
theorem itoa_dec : ∀ v : Nat, v < 356 → 256 ≤ v → Lib.itoa (v : Int) = dec3 v := of_decide_eq_true (by kernel_rfl)
theorem itoa_any (v : Nat) (h1 : 256 ≤ v) (h2 : v < 356) (w : World) (hP : PT w) : Calls Tryz.prog 19 #[.int .i64 (v : Nat)] w fun e w' => e = .returned (.string (textOf (dec3 v))) ∧ Below w.heap.size w w' := by
  refine (Tryz.strconv_Itoa (v : Int) (by omega) (by omega) w hP).mono ?_
  rintro e w' ⟨rfl, k, os, rfl⟩
  rw [itoa_dec v h2 h1]
  exact ⟨rfl, below_regrown w (w.drawn + k) os⟩
theorem jn_len (ts : List (List UInt8)) (B : Nat) (h : ∀ t ∈ ts, t.length ≤ B) : ∀ k, (jn ts k).length ≤ k * (B + 1)
  | 0 => by simp [jn]
  | k + 1 => by
    have ih := jn_len ts B h k
    rw [jn_succ, List.length_append, List.length_append, Nat.add_mul]
    have : (ts.getD k []).length ≤ B := by
      by_cases hk : k < ts.length
      · have := h ts[k] (List.getElem_mem hk)
        simpa [List.getD, List.getElem?_eq_getElem hk] using this
      · simp [List.getD, List.getElem?_eq_none (by omega : ts.length ≤ k)]
    have : (if 0 < k then [(32 : UInt8)] else []).length ≤ 1 := by split <;> simp
    omega
theorem quote_len (w : ByteArray) (h : w.size ≤ 1048576) : (quoteF (tl w)).length ≤ 3145730 := by
  have := quoteT_len (tl w)
  have h2 : (tl w).length = w.size := by simp
  unfold quoteF
  rw [List.length_cons, List.length_append]
  show _ + 1 + 1 ≤ _
  omega
theorem wordF_le (ws : List ByteArray) (h : ∀ x ∈ ws, x.size ≤ 1048576) (id : Nat) : (wordF ws id).size ≤ 1048576 := by
  unfold wordF
  split
  · show 1 ≤ _
    omega
  · by_cases hk : id - 256 < ws.length
    · have := h ws[id - 256] (List.getElem_mem hk)
      simpa [List.getD, List.getElem?_eq_getElem hk] using this
    · rw [List.getD, List.getElem?_eq_none (by omega : ws.length ≤ id - 256)]
      show 0 ≤ _
      omega
theorem merge_len {ws : List ByteArray} (h : ∀ x ∈ ws, x.size ≤ 1048576) (x : Mg) : ∀ t ∈ mergeT ws x, t.length ≤ 3145730 := by
  intro t ht
  unfold mergeT at ht
  simp only [List.mem_cons, List.mem_nil_iff, or_false] at ht
  rcases ht with rfl | rfl | rfl | rfl | rfl | rfl
  · decide
  · exact quote_len _ (wordF_le ws h _)
  · decide
  · exact quote_len _ (wordF_le ws h _)
  · decide
  · show 3 ≤ _; omega
theorem rtok_len {n : Nat} (h : n ≤ 1114111) : (runeTok n).length ≤ 8 := by
  obtain ⟨l, hl, _, h2, _⟩ := rune_form h
  unfold runeTok
  rw [hl]
  simp
  omega
theorem cls_len {l : List Sp} {nm : List UInt8} (hn : nm.length ≤ 8) (h : l.all spOk = true) : (∀ t ∈ clsT nm l, t.length ≤ 8) ∧ (clsT nm l).length ≤ 3 * l.length + 3 := by
  constructor
  · intro t ht
    unfold clsT at ht
    simp only [List.mem_append, List.mem_cons, List.mem_nil_iff, or_false, List.mem_flatMap] at ht
    rcases ht with (h1 | ⟨x, hx, h1⟩) | h1
    · rcases h1 with rfl | rfl
      · exact hn
      · decide
    · have := List.all_eq_true.1 h x hx
      obtain ⟨a, b, e1, e2, _, _, l1, l2⟩ := sp_scal this
      unfold spT at h1
      rw [e1, e2] at h1
      simp only [Int.toNat_natCast] at h1
      split at h1
      · simp at h1
        subst h1
        exact rtok_len l1
      · simp at h1
        rcases h1 with rfl | rfl | rfl
        · exact rtok_len l1
        · decide
        · exact rtok_len l2
    · subst h1; decide
  · unfold clsT
    have := flatT_len l
    rw [List.length_append, List.length_append]
    show 2 + _ + 1 ≤ _
    omega
/-- The text of the first merges. -/
def accF (ws : List ByteArray) (ms : List Mg) (k : Nat) : List UInt8 := textF [10] ((ms.take k).map (mergeT ws))
theorem accF_succ {ws : List ByteArray} {ms : List Mg} {k : Nat} {x : Mg} (h : ms[k]? = some x) : accF ws ms (k + 1) = accF ws ms k ++ (jn (mergeT ws x) (mergeT ws x).length ++ [10]) := by
  unfold accF textF
  rw [List.take_add_one, h, List.map_append, List.flatMap_append]
  simp [lnT]
theorem accF_len {ws : List ByteArray} (h : ∀ x ∈ ws, x.size ≤ 1048576) (ms : List Mg) : ∀ k, k ≤ ms.length → (accF ws ms k).length ≤ k * 18874388
  | 0, _ => by simp [accF, textF]
  | k + 1, hk => by
    have ih := accF_len h ms k (by omega)
    rw [accF_succ (List.getElem?_eq_getElem (by omega : k < ms.length)), List.length_append, List.length_append]
    have := jn_len _ _ (merge_len h ms[k]) (mergeT ws ms[k]).length
    have e : (mergeT ws ms[k]).length = 6 := rfl
    rw [e] at this ⊢
    simp
    omega
theorem text_all (ws : List ByteArray) (ms : List Mg) (A B C : List Sp) : textF [10] (linesF ws ms A B C) = accF ws ms ms.length ++ lnT [10] (clsT nmL A) ++ lnT [10] (clsT nmN B) ++ lnT [10] (clsT nmS C) := by
  unfold textF linesF accF textF
  rw [List.take_of_length_le (Nat.le_refl _)]
  simp only [List.flatMap_append, List.flatMap_cons, List.flatMap_nil, List.append_nil, List.append_assoc]
  rfl
end Go.Proofs.YtonbfcpbgkpbaaaGreatDoor
end
