import Derived.Test.YtonbfcpbgkpbaaaDoorJ10
import Derived.Test.YtonbfcpbgkpbaaaDoorJ11
import Derived.Test.YtonbfcpbgkpbaaaDoorJ9
import Derived.Laws.BytesArg
section
/- recipe.placeOf: its contract. -/
namespace Go.Proofs.YtonbfcpbgkpbaaaDoor
open Go.RowKit Go.Shelf
open Go.Joins
set_option linter.unusedVariables false
set_option linter.unusedSimpArgs false
attribute [local go_sem] Oper.semAt_some
/-- The text ahead of byte y; its last line. -/
def aheadT (src : ByteArray) (y : Nat) : ByteArray := src.extract 0 y
def lineT (src : ByteArray) (y : Nat) : ByteArray := (aheadT src y).extract (Lib.lastIndexByte (aheadT src y) 10 + 1).toNat (aheadT src y).size
/-- Line and column of byte y. -/
def plT (src : ByteArray) (y : Nat) : Nat × Nat := (1 + Lib.countByte (aheadT src y).data.toList 10, 1 + (items 0 (tl (lineT src y))).length)
theorem keepsOthers_refl0 (W : World) : KeepsOthers W W := KeepsOthers.of_grownBy (row := none) ⟨rfl, rfl, rfl, Nat.le_refl _, fun _ _ _ => rfl⟩ (fun j o e _ => by cases e)
theorem block_own {β : Type} (B : Nat) (t : TypeId) (f : β → Array Value) : Own (fun s W => W.heap[B]? = some (.cells (f s) t (0, 0))) := fun s X Y row hs hg hrow =>
  (hg.block B (Array.getElem?_eq_some_iff.1 hs).1 (fun e' => by obtain ⟨o, ho, hc⟩ := hrow B e'.symm; rw [hs] at ho; cases ho; cases hc)).trans hs
set_option maxRecDepth 100000 in
set_option maxHeartbeats 4000000 in
theorem placeOf_upto (src : ByteArray) (y : Nat) (hs : y ≤ 4194304) (hy : y ≤ src.size) (w : World) :
    Calls Tryd.prog 21 #[.string src, .int .i64 (y : Nat)] w fun e w' => e = .returned (.agg #[.int .i64 (y : Nat), .int .i64 ((plT src y).1 : Nat), .int .i64 ((plT src y).2 : Nat)]) ∧ Below w.heap.size w w' := by
  have hasz : (aheadT src y).size = y := by unfold aheadT; rw [ByteArray.size_extract]; omega
  obtain ⟨q, hq⟩ : ∃ q, q = (plT src y).1 := ⟨_, rfl⟩
  have hc1 : (1 : Int) + (Lib.countByte (aheadT src y).data.toList 10 : Int) = (q : Int) := by rw [hq]; unfold plT; simp
  have hcq : Lib.countByte (aheadT src y).data.toList 10 ≤ 4194304 := by
    unfold Lib.countByte
    refine Nat.le_trans List.count_le_length ?_
    have : (aheadT src y).data.toList.length = (aheadT src y).size := Array.length_toList
    omega
  have hli : -1 ≤ Lib.lastIndexByte (aheadT src y) 10 ∧ Lib.lastIndexByte (aheadT src y) 10 < y := by
    rcases Lib.lastIndexByte_spec (aheadT src y) 10 with ⟨h1, _⟩ | ⟨i, h1, h2, _⟩ <;> omega
  obtain ⟨lz, hlz⟩ : ∃ lz : Nat, Lib.lastIndexByte (aheadT src y) 10 + 1 = (lz : Int) := ⟨(Lib.lastIndexByte (aheadT src y) 10 + 1).toNat, by omega⟩
  have hly : lz ≤ y := by omega
  have hlt : lineT src y = (aheadT src y).extract lz (aheadT src y).size := by unfold lineT; rw [hlz]; rfl
  have hcol : (plT src y).2 = 1 + (items 0 (tl (lineT src y))).length := rfl
  have HCO := Lib.hid hcol
  rw [← hq]
  have hlsz : (lineT src y).size ≤ 4194304 := by rw [hlt, ByteArray.size_extract]; omega
  have HC := count_one (aheadT src y) 10
  have HL := last_one (aheadT src y) 10 (by omega)
  obtain ⟨cb, hcb⟩ : ∃ cb, cb = Lib.countByte (aheadT src y).data.toList 10 := ⟨_, rfl⟩
  rw [← hcb] at HC hc1 hcq
  obtain ⟨li, hlv⟩ : ∃ li, li = Lib.lastIndexByte (aheadT src y) 10 := ⟨_, rfl⟩
  rw [show ((10 : UInt8).toNat : Int) = 10 from rfl] at HL
  rw [← hlv] at HL hli hlz
  obtain ⟨A, hA⟩ : ∃ A, A = aheadT src y := ⟨_, rfl⟩
  rw [← hA] at HC HL hasz hlt
  have hAx : src.extract 0 y = A := hA.symm
  obtain ⟨LT, hLT⟩ : ∃ LT, LT = lineT src y := ⟨_, rfl⟩
  rw [← hLT] at HCO hlsz hlt
  have hLx : A.extract lz y = LT := by rw [hlt, hasz]
  obtain ⟨col, hcl⟩ : ∃ col, col = (plT src y).2 := ⟨_, rfl⟩
  rw [← hcl] at HCO ⊢
  clear hA hcol hlt hcb hlv hq hLT hcl
  refine (callsIn_wide (n := 3)).1 ?_
  have h1 : 1 ≤ 3 := by omega
  have hN := items_length (tl LT) 0
  rw [tl_len] at hN
  have hnf : ∀ (wx : World) (lb : Array Value), (binOp BinOp.eql 84 (.func (.func 51) #[] lb) .nilFunc).run Tryd.prog wx = .ok (.bool false) wx := fun wx lb => by rfl
  refine callsIn_of_wp_marks Tryd.func21 rfl trivial ?_ rfl
  simp only [Tryd.ntmps21, List.size_toArray, List.length_cons, List.length_nil, Nat.reduceAdd, Nat.reduceSub, Array.replicate_succ, Array.replicate_zero, List.push_toArray, List.append_toArray, List.nil_append, List.cons_append]
  gi_wp2_with (first
    | (refine ⟨trivial, ?_⟩; gi_at_call 35; refine (callsIn_wide.2 (HC _)).mono ?_; rintro e w' ⟨rfl, rfl⟩)
    | (refine ⟨trivial, ?_⟩; gi_at_call 37; refine (callsIn_wide.2 (HL _)).mono ?_; rintro e w' ⟨rfl, rfl⟩)
    | (refine ⟨trivial, ?_⟩; gi_at_call 36; refine (items_in 2 LT _).mono ?_; rintro e w' ⟨rfl, rfl⟩))
  have b0 := heap_alloc_new w (.cells #[.int .i64 0, .int .i64 0, .int .i64 0] 37)
  have b1 := heap_alloc_new (w.alloc (.cells #[.int .i64 0, .int .i64 0, .int .i64 0] 37)) (.cells #[.int .i64 (y : Nat), .int .i64 (q : Nat), .int .i64 1] 37)
  have b2 := heap_alloc_new ((w.alloc (.cells #[.int .i64 0, .int .i64 0, .int .i64 0] 37)).alloc (.cells #[.int .i64 (y : Nat), .int .i64 (q : Nat), .int .i64 1] 37)) (.cells #[.string LT] 9)
  simp only [World.size_alloc] at b1 b2
  obtain ⟨W0, hW0⟩ : ∃ W0, W0 = ((w.alloc (.cells #[.int .i64 0, .int .i64 0, .int .i64 0] 37)).alloc (.cells #[.int .i64 (y : Nat), .int .i64 (q : Nat), .int .i64 1] 37)).alloc (.cells #[.string LT] 9) := ⟨_, rfl⟩
  rw [← hW0] at b2 ⊢
  have hB0 : Below w.heap.size w W0 := by rw [hW0]; exact (((Below.refl _ w).alloc (Nat.le_refl _) _).alloc (by simp) _).alloc (by simp; omega) _
  have hsz : W0.heap.size = w.heap.size + 3 := by rw [hW0]; simp
  have c1 : W0.heap[w.heap.size + 1]? = some (.cells #[.int .i64 (y : Nat), .int .i64 (q : Nat), .int .i64 1] 37 (0, 0)) := by
    rw [hW0, Below.heap_alloc _ _ _ (by simp)]
    exact b1
  have c0 : W0.heap[w.heap.size]? = some (.cells #[.int .i64 0, .int .i64 0, .int .i64 0] 37 (0, 0)) := by
    rw [hW0, Below.heap_alloc _ _ _ (by simp; omega), Below.heap_alloc _ _ _ (by simp)]
    exact b0
  clear hW0 b0 b1
  refine wpIn_rangeFunc_ownH rfl h1 (gf := 51) (lb := #[.pointer (some ⟨w.heap.size + 1 + 1, 0, none⟩)]) rfl trivial (enters_of Tryd.func51 (by kernel_rfl) rfl)
    (items_stops 2 (by omega) (w.heap.size + 1 + 1) LT (by omega) W0 (cell_of_one b2)) KpJ.trans (KpJ.putObj (by omega)) (Below.refl _ _) (fun _ => rfl)
    (fun pre W => (W.heap[w.heap.size + 1]? = some (.cells #[.int .i64 (y : Nat), .int .i64 (q : Nat), .int .i64 (1 + pre.length : Nat)] 37 (0, 0)) ∧ W.heap[w.heap.size]? = some (.cells #[.int .i64 0, .int .i64 0, .int .i64 0] 37 (0, 0))) ∧ Below w.heap.size w W)
    (fun _ _ _ => False)
    (OwnFrom.and (OwnFrom.and (Own.from (block_own (w.heap.size + 1) 37 (fun pre : List It => #[.int .i64 (y : Nat), .int .i64 (q : Nat), .int .i64 (1 + pre.length : Nat)])) _) (Own.from (block_own w.heap.size 37 (fun _ : List It => #[.int .i64 0, .int .i64 0, .int .i64 0])) _)) (ownFrom_below (Nat.le_refl _) (by omega)))
    (fun _ _ _ _ _ hs _ _ => hs)
    ⟨⟨c1, c0⟩, hB0⟩
    (fun x a' W => a' = { tmps := #[.string src, .int .i64 (y : Nat), undef, undef, .pointer (some ⟨w.heap.size, 0, none⟩), .string A, .pointer (some ⟨w.heap.size + 1, 0, none⟩), .string src, .int .i64 (y : Nat), .string A, .int .i64 (y : Nat), .string A, .int .i64 (cb : Nat), .int .i64 (q : Nat), .agg #[.int .i64 (y : Nat), .int .i64 (q : Nat), .int .i64 1], .string A, .string A, .int .i64 li, .int .i64 (lz : Nat), .string LT, .func (.func 51) #[] #[.pointer (some ⟨w.heap.size + 1 + 1, 0, none⟩)], itv x, undef, undef, undef, undef, undef], defers := [] })
    (fun x a' _ X Y row hs hg hr => hs)
    ?assign ?body ?done ?stop
  case assign =>
    rintro l pre x W K hI hK
    gi_wp2
    exact hK _ _ ((keepsOthers_refl0 W).from _) (KpJ.refl _ W) hI (by simp)
  case body =>
    rintro l pre x a' W hl ⟨r, hr⟩ ⟨⟨hx, hr0⟩, hB⟩ rfl hlt
    have d2 : W.cell? ⟨w.heap.size + 1, 2, none⟩ = some (.int .i64 (1 + pre.length : Nat)) := by rw [cell_of_row W _ 2 _ _ _ hx]; rfl
    have f2 : W.frozen? ⟨w.heap.size + 1, 2, none⟩ = false := frozen_of_row W _ 2 _ _ hx
    have hst := heap_setCell_same W (w.heap.size + 1) 2 _ _ (.int .i64 (1 + (pre ++ [x]).length : Nat)) hx
    have hpl : (pre ++ [x]).length = pre.length + 1 := by simp
    rw [hpl] at hst
    obtain ⟨k, hk⟩ : ∃ k, k = 1 + pre.length := ⟨_, rfl⟩
    rw [← hk] at d2 hx
    rw [show 1 + (pre.length + 1) = k + 1 by omega] at hst
    have hkb : k ≤ 4194305 := by omega
    have HK := Lib.hid hk
    clear hk hpl
    gi_wp2
    refine ⟨(KeepsOthers.setCell _ _ _).from _, ?_, ⟨?_, ?_⟩, ?_⟩
    · refine ⟨by simp, heap_setCell_other W ⟨w.heap.size + 1, 2, none⟩ _ _ (by show w.heap.size + 1 + 1 ≠ w.heap.size + 1; omega), fun j c hj hc => heap_setCell_other W ⟨w.heap.size + 1, 2, none⟩ j _ (fun e => ?_)⟩
      have e' : j = w.heap.size + 1 := e
      subst e'
      rw [hx] at hj
      injection hj with hj
      injection hj with hj _ _
      rw [← hj] at hc
      simp at hc
    · rw [show (pre ++ [x]).length = pre.length + 1 by simp, show 1 + (pre.length + 1) = k + 1 by rw [HK.out]; omega]
      exact hst
    · exact (heap_setCell_other W ⟨w.heap.size + 1, 2, none⟩ _ _ (by show w.heap.size ≠ w.heap.size + 1; omega)).trans hr0
    · exact hB.setCell (p := ⟨w.heap.size + 1, 2, none⟩) (by show w.heap.size ≤ w.heap.size + 1; omega) _
  case done =>
    rintro D ys W hD rfl ⟨⟨hx, hr0⟩, hB⟩ hK
    rw [← HCO.out] at hx
    have c0 : W.cell? ⟨w.heap.size, 0, none⟩ = some (.int .i64 0) := by rw [cell_of_row W _ 0 _ _ _ hr0]; rfl
    have c1 : W.cell? ⟨w.heap.size, 1, none⟩ = some (.int .i64 0) := by rw [cell_of_row W _ 1 _ _ _ hr0]; rfl
    have c2 : W.cell? ⟨w.heap.size, 2, none⟩ = some (.int .i64 0) := by rw [cell_of_row W _ 2 _ _ _ hr0]; rfl
    have d0 : W.cell? ⟨w.heap.size + 1, 0, none⟩ = some (.int .i64 (y : Nat)) := by rw [cell_of_row W _ 0 _ _ _ hx]; rfl
    have d1 : W.cell? ⟨w.heap.size + 1, 1, none⟩ = some (.int .i64 (q : Nat)) := by rw [cell_of_row W _ 1 _ _ _ hx]; rfl
    have d2 : W.cell? ⟨w.heap.size + 1, 2, none⟩ = some (.int .i64 (col : Nat)) := by rw [cell_of_row W _ 2 _ _ _ hx]; rfl
    have f0 : W.frozen? ⟨w.heap.size, 0, none⟩ = false := frozen_of_row W _ 0 _ _ hr0
    have f1 : W.frozen? ⟨w.heap.size, 1, none⟩ = false := frozen_of_row W _ 1 _ _ hr0
    have f2 : W.frozen? ⟨w.heap.size, 2, none⟩ = false := frozen_of_row W _ 2 _ _ hr0
    have hz1 := heap_setCell_same W w.heap.size 0 _ _ (.int .i64 (y : Nat)) hr0
    have hz2 := heap_setCell_same _ w.heap.size 1 _ _ (.int .i64 (q : Nat)) hz1
    have hz3 := heap_setCell_same _ w.heap.size 2 _ _ (.int .i64 (col : Nat)) hz2
    gi_wp2
    have hDn : D ≠ w.heap.size := by omega
    have hK3 : (((W.setCell ⟨w.heap.size, 0, none⟩ (.int .i64 (y : Nat))).setCell ⟨w.heap.size, 1, none⟩ (.int .i64 (q : Nat))).setCell ⟨w.heap.size, 2, none⟩ (.int .i64 (col : Nat))).heap[D]? = some (.deferred (some [])) := by
      rw [heap_setCell_other _ ⟨w.heap.size, 2, none⟩ D _ hDn, heap_setCell_other _ ⟨w.heap.size, 1, none⟩ D _ hDn, heap_setCell_other _ ⟨w.heap.size, 0, none⟩ D _ hDn]
      exact hK
    have hB3 : Below w.heap.size w (((W.setCell ⟨w.heap.size, 0, none⟩ (.int .i64 (y : Nat))).setCell ⟨w.heap.size, 1, none⟩ (.int .i64 (q : Nat))).setCell ⟨w.heap.size, 2, none⟩ (.int .i64 (col : Nat))) :=
      ((hB.setCell (p := ⟨w.heap.size, 0, none⟩) (Nat.le_refl _) _).setCell (p := ⟨w.heap.size, 1, none⟩) (Nat.le_refl _) _).setCell (p := ⟨w.heap.size, 2, none⟩) (Nat.le_refl _) _
    obtain ⟨Z, hZ⟩ : ∃ Z, Z = (((W.setCell ⟨w.heap.size, 0, none⟩ (.int .i64 (y : Nat))).setCell ⟨w.heap.size, 1, none⟩ (.int .i64 (q : Nat))).setCell ⟨w.heap.size, 2, none⟩ (.int .i64 (col : Nat))) := ⟨_, rfl⟩
    rw [← hZ] at hK3 hB3 hz3 ⊢
    clear hZ
    refine ⟨by simp, .inl ⟨_, _, rfl, run_takeDeferred hK3, ?_⟩⟩
    have z3 : (Z.putObj D (.deferred none)).heap[w.heap.size]? = _ := (World.putObj_heap_other hDn.symm).trans hz3
    obtain ⟨U, hU⟩ : ∃ U, U = Z.putObj D (.deferred none) := ⟨_, rfl⟩
    have hBU : Below w.heap.size w U := by
      rw [hU]
      exact hB3.trans ⟨rfl, rfl, rfl, by simp [World.putObj], fun k hk => World.putObj_heap_other (by omega)⟩
    rw [← hU] at z3 ⊢
    have e0 : U.cell? ⟨w.heap.size, 0, none⟩ = some (.int .i64 (y : Nat)) := by rw [cell_of_row U _ 0 _ _ _ z3]; rfl
    have e1 : U.cell? ⟨w.heap.size, 1, none⟩ = some (.int .i64 (q : Nat)) := by rw [cell_of_row U _ 1 _ _ _ z3]; rfl
    have e2 : U.cell? ⟨w.heap.size, 2, none⟩ = some (.int .i64 (col : Nat)) := by rw [cell_of_row U _ 2 _ _ _ z3]; rfl
    exact ⟨.agg #[.int .i64 (y : Nat), .int .i64 (q : Nat), .int .i64 (col : Nat)], by simp [results, Tryd.results21, go_sem, e0, e1, e2], rfl, hBU⟩
  case stop =>
    rintro D c pre W _ _ h _
    exact h.elim
theorem placeOf_any (src : ByteArray) (y : Nat) (hs : src.size ≤ 4194304) (hy : y ≤ src.size) (w : World) :
    Calls Tryd.prog 21 #[.string src, .int .i64 (y : Nat)] w fun e w' => e = .returned (.agg #[.int .i64 (y : Nat), .int .i64 ((plT src y).1 : Nat), .int .i64 ((plT src y).2 : Nat)]) ∧ Below w.heap.size w w' :=
  placeOf_upto src y (by omega) hy w
end Go.Proofs.YtonbfcpbgkpbaaaDoor
end
section
/- recipe.areRunes of none, of one that is none: its contracts. -/
namespace Go.Proofs.YtonbfcpbgkpbaaaDoor
open Go.RowKit Go.Sort Go.Joins
set_option linter.unusedVariables false
set_option linter.unusedSimpArgs false
set_option maxRecDepth 100000
set_option maxHeartbeats 1000000 in
theorem runes_nil (w : World) : Calls Tryd.prog 15 #[.slice none 0 0] w fun e w' => e = .returned (.bool true) ∧ w' = w := by
  go_enter Tryd.func15, Tryd.ntmps15
  go_wp2_with fail
  go_loopw [4, 7] (fun x i wr => i = .int .i64 0 ∧ wr = w) (fun _ _ _ => 0)
  case atStart => exact ⟨rfl, rfl⟩
  case round =>
    obtain ⟨rfl, hw⟩ := hrel
    rw [hw]
    go_wp2_with fail
    go_ret
    exact ⟨rfl, rfl⟩
set_option maxHeartbeats 1000000 in
theorem runes_bad (g : Nat) (w : World) (h : w.heap[g]? = some (.cells #[.int .i32 (-1), .int .i32 4] 31 (0, 0))) : Calls Tryd.prog 15 #[.slice (some ⟨g, 0, none⟩) 1 1] w fun e w' => e = .returned (.bool false) ∧ Below w.heap.size w w' := by
  have c0 : w.cell? ⟨g, 0, none⟩ = some (.int .i32 (-1)) := by rw [cell_of_block h]; rfl
  have c1 : w.cell? ⟨g, 1, none⟩ = some (.int .i32 4) := by rw [cell_of_block h]; rfl
  clear h
  go_enter Tryd.func15, Tryd.ntmps15
  go_wp2_with fail
  go_loopw [4, 7] (fun x i wr => i = .int .i64 0 ∧ wr = w) (fun _ _ _ => 0)
  case atStart => exact ⟨rfl, rfl⟩
  case round =>
    obtain ⟨rfl, hw⟩ := hrel
    rw [hw]
    go_wp2
    go_ret
    exact ⟨rfl, box_below w _⟩
end Go.Proofs.YtonbfcpbgkpbaaaDoor
end
section
/- recipe.class without spans: its contract. -/
namespace Go.Proofs.YtonbfcpbgkpbaaaDoor
open Go.RowKit Go.Sort Go.Joins
set_option linter.unusedVariables false
set_option linter.unusedSimpArgs false
set_option maxRecDepth 100000
theorem wp_named8 {P : Program} {c : Code} {Q : Exit → Act → World → Prop} {a : Act} {w : World} (h : ∀ X, X = w → c.wp P Q a X) : c.wp P Q a w := h w rfl
set_option maxHeartbeats 2000000 in
theorem class_nil (nm : List UInt8) (w : World) : Calls Tryd.prog 19 #[.string (textOf nm), .slice none 0 0] w fun e w' => ∃ v, e = .returned v ∧ OwnG 9 1 encS1 w' w.heap.size v [nm, [123], [125]] ∧ Below w.heap.size w w' := by
  obtain ⟨x, hx⟩ : ∃ x, x = textOf nm := ⟨_, rfl⟩
  have HX := Lib.hid hx
  rw [← hx]
  clear hx
  go_enter Tryd.func19, Tryd.ntmps19
  go_wp2_with fail
  refine wp_named8 fun X hX => ?_
  go_loopw [5, 7, 12] (fun x y i wr => x = .slice (some ⟨w.heap.size, 0, none⟩) 2 2 ∧ i = .int .i64 0 ∧ wr = X) (fun _ _ _ _ => 0)
  case atStart => exact ⟨rfl, rfl, rfl⟩
  case round =>
    obtain ⟨rfl, rfl, hw⟩ := hrel
    rw [hw]
    have hb1 : Below w.heap.size w X := by rw [hX]; exact box_below w _
    have hO : OwnG 9 1 encS1 X w.heap.size (.slice (some ⟨w.heap.size, 0, none⟩) 2 2) [nm, [123]] := by
      refine ⟨rfl, .inr ⟨w.heap.size, 2, _, rfl, Nat.le_refl _, by rw [hX]; exact heap_alloc_new w _, Nat.le_refl _, by decide, rfl, ?_⟩⟩
      rw [HX.out]
      rfl
    obtain ⟨i0, hi, hz0, hz1, hz2⟩ := info_parts infoStr
    obtain ⟨v, w2, hr, hO2, hg2, hm2⟩ := run_own_g 22 9 i0 _ 1 16 encS1 (fun _ => rfl) (by omega) (fun x v hv => by simp only [encS1, List.mem_singleton] at hv; rw [hv]; rfl) Tryd.underlying22 hi hz0 hz1 hz2 rfl (X.alloc (.cells #[.string ⟨#[125]⟩] 9)) w.heap.size (.slice (some ⟨w.heap.size, 0, none⟩) 2 2) [nm, [123]] [125] X.heap.size 1 (hO.below (box_below X _) (Nat.le_refl _)) (heap_alloc_new X _) (by rw [World.size_alloc]; have := hb1.size; omega) (by simp) (by simp)
    have hb2 : Below w.heap.size w w2 := (hb1.alloc hb1.size _).grown hg2 (by rw [World.size_alloc]; have := hb1.size; omega) (fun k hk => by cases hk; exact Nat.le_refl _)
    obtain ⟨av, cv, rfl⟩ := hO2.slice
    clear hO hm2 hg2 hX
    go_wp2_with (at_builtin; refine wpList_append_run rfl (.tmp 34) (.tmp 35) 22 22 rfl _ _ rfl rfl _ w2 hr ?_; clear hr)
    go_ret
    exact ⟨_, rfl, hO2, hb2⟩
end Go.Proofs.YtonbfcpbgkpbaaaDoor
end
section
/- recipe.Print of data without merges and spans, and of what it refuses in chapter 7's runs: the contracts. -/
namespace Go.Proofs.YtonbfcpbgkpbaaaDoor
open Go.RowKit Go.Sort Go.Joins
set_option linter.unusedVariables false
set_option linter.unusedSimpArgs false
set_option maxRecDepth 100000
theorem toks {w : World} {base : Nat} {v : Value} {ts : List (List UInt8)} (h : OwnG 9 1 encS1 w base v ts) (hl : 0 < ts.length) : ∃ tb c cur, v = .slice (some ⟨tb, 0, none⟩) ts.length c ∧ w.heap[tb]? = some (.cells cur 9 (0, 0)) ∧ ∀ i, i < ts.length → cur[i]? = some (.string (textOf (ts.getD i []))) := by
  rcases h.2 with ⟨hv, h0⟩ | ⟨tb, c, cur, hv, hg, hh, hn, hm, hcs, ht⟩
  · omega
  · refine ⟨tb, c, cur, hv, hh, fun i hi => ?_⟩
    have q0 : (ts.flatMap encS1)[i]? = some (.string (textOf (ts.getD i []))) := by
      rw [flat_one, List.getElem?_map, List.getElem?_eq_getElem hi]
      simp [List.getD, List.getElem?_eq_getElem hi]
    rw [← ht, List.getElem?_take_of_lt (by omega)] at q0
    simpa using q0
theorem BI.below {w w' : World} {b base : Nat} {v : Value} {acc : List UInt8} (h : BI w b base v acc) (hb : Below w.heap.size w w') : BI w' b base v acc := by
  obtain ⟨p, hp, h1⟩ := h.at_
  exact ⟨⟨p, hp, (hb.block b h.lt).trans h1⟩, h.row.below hb (Nat.le_refl _)⟩
theorem BI.wrote_below {w w' : World} {b : Nat} {v : Value} {acc : List UInt8} (h : BI w b b v acc) (hb : Bu b v.ownBlock w.heap.size w w') : Below b w w' :=
  ⟨hb.os, hb.tape, hb.output, hb.size, fun k hk => hb.block k (by have := h.lt; omega) (by omega) (fun e => by
    rcases h.row.2 with ⟨hv, _⟩ | ⟨g, cp, cur, hv, hg, _⟩
    · rw [hv] at e; cases e
    · rw [hv] at e
      have : k = g := by simpa [Value.ownBlock] using e
      have := h.lt
      omega)⟩
def nmL : List UInt8 := [108, 101, 116, 116, 101, 114, 115]
def nmN : List UInt8 := [110, 117, 109, 98, 101, 114, 115]
def nmS : List UInt8 := [115, 112, 97, 99, 101, 115]
def ln (nm : List UInt8) : List UInt8 := jn [nm, [123], [125]] 3 ++ [10]
def noText : List UInt8 := ln nmL ++ ln nmN ++ ln nmS
theorem jn_fits (nm acc : List UInt8) (ha : acc.length ≤ 100) (hn : nm.length ≤ 100) : ∀ k, k ≤ [nm, [123], [125]].length → acc.length + (jn [nm, [123], [125]] k).length + 1 ≤ 140737488355328 := by
  intro k hk
  have : k = 0 ∨ k = 1 ∨ k = 2 ∨ k = 3 := by simp only [List.length_cons, List.length_nil] at hk; omega
  rcases this with rfl | rfl | rfl | rfl <;> simp [jn, List.range_succ] <;> omega
abbrev nilD : Value := .agg #[.slice none 0 0, .slice none 0 0, .slice none 0 0, .slice none 0 0, .slice none 0 0]
set_option maxHeartbeats 4000000 in
theorem print_no (w : World) : Calls Tryd.prog 6 #[.agg #[.slice none 0 0, .slice none 0 0, .slice none 0 0, .slice none 0 0, .slice none 0 0]] w fun e w' => e = .returned (.tuple #[.string (textOf noText), .int .i64 0]) ∧ Below w.heap.size w w' := by
  have hD := DBox.new w (.slice none 0 0) (.slice none 0 0) (.slice none 0 0) (.slice none 0 0) (.slice none 0 0)
  have hb0 := box_below w (.cells #[.slice none 0 0, .slice none 0 0, .slice none 0 0, .slice none 0 0, .slice none 0 0] 26)
  obtain ⟨Y, hY⟩ : ∃ Y, Y = w.alloc (.cells #[.slice none 0 0, .slice none 0 0, .slice none 0 0, .slice none 0 0, .slice none 0 0] 26) := ⟨_, rfl⟩
  rw [← hY] at hb0 hD
  have HY := Lib.hid hY
  have HB0 := Lib.hid hb0
  clear hY hb0
  obtain ⟨z, hz⟩ : ∃ z, z = w.heap.size := ⟨_, rfl⟩
  have HZ := Lib.hid hz
  rw [← hz] at hD
  clear hz
  have HD := Lib.hid hD
  have x0 := hD.c0
  have x1 := hD.c1
  have hmf : ∀ (fn : Fn) (first cap : Array Value) (w : World), (Instr.makeFunc fn first cap).run Tryd.prog w = .ok (.func fn first cap) w := fun _ _ _ _ => rfl
  clear hD
  go_enter Tryd.func6, Tryd.ntmps6
  go_upto_region 2 with fail
  rw [← HY.out, ← HZ.out]
  clear HY
  go_wp2_with fail
  refine (unlike_nil Y).mono ?_
  rintro e w1 ⟨rfl, hb1⟩
  have hD1 := HD.out.below hb1 HD.out.lt
  have HD1 := Lib.hid hD1
  have HB1 := Lib.hid (HB0.out.trans (hb1.mono HB0.out.size))
  have x0 := hD1.c0
  have x1 := hD1.c1
  clear hD1 hb1 HD HB0
  go_wp2_with fail
  refine (made_nil _ w1).mono ?_
  rintro e w2 ⟨rfl, hb2⟩
  have hD2 := HD1.out.below hb2 HD1.out.lt
  have HD2 := Lib.hid hD2
  have HB2 := Lib.hid (HB1.out.trans (hb2.mono HB1.out.size))
  have x2 := hD2.c2
  have x3 := hD2.c3
  have x4 := hD2.c4
  have x1 := hD2.c1
  clear hD2 hb2 HD1 HB1
  go_wp2_with fail
  refine (runes_nil w2).mono ?_
  rintro e w3 ⟨rfl, hw3⟩
  rw [hw3]
  clear hw3 w3
  go_wp2_with fail
  refine (runes_nil w2).mono ?_
  rintro e w3 ⟨rfl, hw3⟩
  rw [hw3]
  clear hw3 w3
  go_wp2_with fail
  refine (runes_nil w2).mono ?_
  rintro e w3 ⟨rfl, hw3⟩
  rw [hw3]
  clear hw3 w3
  have hbl := heap_alloc_new w2 (.cells #[.pointer none, .slice none 0 0] 50)
  have hbb := box_below w2 (.cells #[.pointer none, .slice none 0 0] 50)
  obtain ⟨V, hV⟩ : ∃ V, V = w2.alloc (.cells #[.pointer none, .slice none 0 0] 50) := ⟨_, rfl⟩
  have hVs : V.heap.size = w2.heap.size + 1 := by rw [hV]; simp
  rw [← hV] at hbl hbb
  have HV := Lib.hid hV
  clear hV
  obtain ⟨b, hbz⟩ : ∃ b, b = w2.heap.size := ⟨_, rfl⟩
  rw [← hbz] at hbl hVs
  have HBZ := Lib.hid hbz
  have hI0 : BI V b b (.slice none 0 0) [] := ⟨⟨_, .inl rfl, hbl⟩, rfl, .inl ⟨rfl, rfl⟩⟩
  have hDV := HD2.out.below hbb HD2.out.lt
  have hzb : z < b := by rw [hbz]; exact HD2.out.lt
  have HI0 := Lib.hid hI0
  have HDV := Lib.hid hDV
  have HBV := Lib.hid (HB2.out.trans (hbb.mono HB2.out.size))
  have HVS := Lib.hid hVs
  have x1 := hDV.c1
  have x2 := hDV.c2
  clear hI0 hDV hbl hbb hbz HD2 hVs
  go_upto_region 7 with fail
  rw [← HV.out, ← HBZ.out]
  clear HV x3 x4
  go_wp2_with fail
  go_loopw [7, 48] (fun x i wr => i = .int .i64 0 ∧ wr = V) (fun _ _ _ => 0)
  case atStart => exact ⟨rfl, rfl⟩
  case round =>
    obtain ⟨rfl, hw⟩ := hrel
    rw [hw]
    clear hw wr
    go_wp2_with fail
    refine (class_nil nmL V).mono ?_
    rintro e w4 ⟨v4, rfl, hO4, hb4⟩
    obtain ⟨t4, c4, cur4, rfl, hT4, hc4⟩ := toks hO4 (by decide)
    have hI4 := HI0.out.below hb4
    have hD4 := HDV.out.below hb4 HDV.out.lt
    have hs4 := hb4.size
    have HB4 := Lib.hid (HBV.out.trans (hb4.mono HBV.out.size))
    have hW4 := writeLine_any b b _ _ t4 c4 cur4 [nmL, [123], [125]] w4 hI4 (by have := HVS.out; omega) hT4 hc4 (jn_fits nmL [] (by decide) (by decide)) (by decide)
    have HI4 := Lib.hid hI4
    have HD4 := Lib.hid hD4
    clear hI4 hD4 hO4 hb4 hT4 hc4 x2
    go_wp2_with fail
    refine hW4.mono ?_
    rintro e w5 ⟨rfl, v5, hI5, hB5, hM5⟩
    have hb5 := HI4.out.wrote_below hB5
    have hD5 := HD4.out.below hb5 hzb
    have HB5 := Lib.hid (HB4.out.trans (hb5.mono (by have := HBZ.out; have := HB2.out.size; omega)))
    have HI5 := Lib.hid hI5
    have HD5 := Lib.hid hD5
    have hs5 := hb5.size
    have x3 := hD5.c3
    clear hW4 hI5 hB5 hM5 hb5 hD5 HI4 HD4 HB4
    go_wp2_with fail
    refine (class_nil nmN w5).mono ?_
    rintro e w6 ⟨v6, rfl, hO6, hb6⟩
    obtain ⟨t6, c6, cur6, rfl, hT6, hc6⟩ := toks hO6 (by decide)
    have hI6 := HI5.out.below hb6
    have hD6 := HD5.out.below hb6 HD5.out.lt
    have hs6 := hb6.size
    have HB6 := Lib.hid (HB5.out.trans (hb6.mono HB5.out.size))
    have hW6 := writeLine_any b b _ _ t6 c6 cur6 [nmN, [123], [125]] w6 hI6 (by have := HVS.out; omega) hT6 hc6 (jn_fits nmN _ (by decide) (by decide)) (by decide)
    have HI6 := Lib.hid hI6
    have HD6 := Lib.hid hD6
    clear hI6 hD6 hO6 hb6 hT6 hc6 x3
    go_wp2_with fail
    refine hW6.mono ?_
    rintro e w7 ⟨rfl, v7, hI7, hB7, hM7⟩
    have hb7 := HI6.out.wrote_below hB7
    have hD7 := HD6.out.below hb7 hzb
    have HB7 := Lib.hid (HB6.out.trans (hb7.mono (by have := HBZ.out; have := HB2.out.size; omega)))
    have HI7 := Lib.hid hI7
    have HD7 := Lib.hid hD7
    have hs7 := hb7.size
    have x4 := hD7.c4
    clear hW6 hI7 hB7 hM7 hb7 hD7 HI6 HD6 HB6
    go_wp2_with fail
    refine (class_nil nmS w7).mono ?_
    rintro e w8 ⟨v8, rfl, hO8, hb8⟩
    obtain ⟨t8, c8, cur8, rfl, hT8, hc8⟩ := toks hO8 (by decide)
    have hI8 := HI7.out.below hb8
    have hs8 := hb8.size
    have HB8 := Lib.hid (HB7.out.trans (hb8.mono HB7.out.size))
    have hW8 := writeLine_any b b _ _ t8 c8 cur8 [nmS, [123], [125]] w8 hI8 (by have := HVS.out; omega) hT8 hc8 (jn_fits nmS _ (by decide) (by decide)) (by decide)
    have HI8 := Lib.hid hI8
    clear hI8 hO8 hb8 hT8 hc8 x4
    go_wp2_with fail
    refine hW8.mono ?_
    rintro e w9 ⟨rfl, v9, hI9, hB9, hM9⟩
    have hb9 := HI8.out.wrote_below hB9
    have HB9 := Lib.hid (HB8.out.trans (hb9.mono (by have := HBZ.out; have := HB2.out.size; omega)))
    have hs9 := hb9.size
    have hS := string_any b b v9 _ w9 hI9 (by simp) (by have := HVS.out; omega)
    clear hW8 hI9 hB9 hM9 hb9 HI8 HB8
    go_wp2_with fail
    refine hS.mono ?_
    rintro e w10 ⟨rfl, hb10⟩
    have hbw : w.heap.size ≤ b := by have := HBZ.out; have := HB2.out.size; omega
    clear hS
    go_wp2_with fail
    go_ret2
    exact ⟨rfl, HB9.out.trans (hb10.mono hbw)⟩
theorem print_words (a : Option Addr) (c : Nat) (w : World) : Calls Tryd.prog 6 #[.agg #[.slice a 1 c, .slice none 0 0, .slice none 0 0, .slice none 0 0, .slice none 0 0]] w fun e w' => e = .returned (.tuple #[.string ⟨#[]⟩, .int .i64 21]) ∧ Below w.heap.size w w' := by
  have hmf : ∀ (fn : Fn) (first cap : Array Value) (w : World), (Instr.makeFunc fn first cap).run Tryd.prog w = .ok (.func fn first cap) w := fun _ _ _ _ => rfl
  go_enter Tryd.func6, Tryd.ntmps6
  go_wp2_with fail
  go_ret2
  exact ⟨rfl, box_below w _⟩
set_option maxHeartbeats 2000000 in
theorem print_runes (g : Nat) (w : World) (hg : w.heap[g]? = some (.cells #[.int .i32 (-1), .int .i32 4] 31 (0, 0))) : Calls Tryd.prog 6 #[.agg #[.slice none 0 0, .slice none 0 0, .slice (some ⟨g, 0, none⟩) 1 1, .slice none 0 0, .slice none 0 0]] w fun e w' => e = .returned (.tuple #[.string ⟨#[]⟩, .int .i64 14]) ∧ Below w.heap.size w w' := by
  have hD := DBox.new w (.slice none 0 0) (.slice none 0 0) (.slice (some ⟨g, 0, none⟩) 1 1) (.slice none 0 0) (.slice none 0 0)
  have hb0 := box_below w (.cells #[.slice none 0 0, .slice none 0 0, .slice (some ⟨g, 0, none⟩) 1 1, .slice none 0 0, .slice none 0 0] 26)
  have hlg := (Array.getElem?_eq_some_iff.1 hg).1
  obtain ⟨Y, hY⟩ : ∃ Y, Y = w.alloc (.cells #[.slice none 0 0, .slice none 0 0, .slice (some ⟨g, 0, none⟩) 1 1, .slice none 0 0, .slice none 0 0] 26) := ⟨_, rfl⟩
  rw [← hY] at hb0 hD
  have HY := Lib.hid hY
  have HB0 := Lib.hid hb0
  clear hY hb0
  obtain ⟨z, hz⟩ : ∃ z, z = w.heap.size := ⟨_, rfl⟩
  have HZ := Lib.hid hz
  rw [← hz] at hD
  clear hz
  have HD := Lib.hid hD
  have HG := Lib.hid hg
  have x0 := hD.c0
  have x1 := hD.c1
  have hmf : ∀ (fn : Fn) (first cap : Array Value) (w : World), (Instr.makeFunc fn first cap).run Tryd.prog w = .ok (.func fn first cap) w := fun _ _ _ _ => rfl
  clear hD hg
  go_enter Tryd.func6, Tryd.ntmps6
  go_upto_region 2 with fail
  rw [← HY.out, ← HZ.out]
  clear HY
  go_wp2_with fail
  refine (unlike_nil Y).mono ?_
  rintro e w1 ⟨rfl, hb1⟩
  have hD1 := HD.out.below hb1 HD.out.lt
  have HD1 := Lib.hid hD1
  have HB1 := Lib.hid (HB0.out.trans (hb1.mono HB0.out.size))
  have x0 := hD1.c0
  have x1 := hD1.c1
  clear hD1 hb1 HD HB0
  go_wp2_with fail
  refine (made_nil _ w1).mono ?_
  rintro e w2 ⟨rfl, hb2⟩
  have hD2 := HD1.out.below hb2 HD1.out.lt
  have HB2 := Lib.hid (HB1.out.trans (hb2.mono HB1.out.size))
  have x2 := hD2.c2
  have hR := runes_bad g w2 ((HB2.out.block g hlg).trans HG.out)
  clear hD2 hb2 HD1 HB1
  go_wp2_with fail
  refine hR.mono ?_
  rintro e w3 ⟨rfl, hb3⟩
  clear hR
  go_wp2_with fail
  go_ret2
  exact ⟨rfl, HB2.out.trans (hb3.mono HB2.out.size)⟩
end Go.Proofs.YtonbfcpbgkpbaaaDoor
end
section
/- The law's reads, at a recipe that is read; known. -/
namespace Go.Proofs.YtonbfcpbgkpbaaaDoor
open Go.RowKit Go.Sort Go.Joins
set_option linter.unusedVariables false
set_option linter.unusedSimpArgs false
set_option maxRecDepth 100000
theorem OwnG.wsp {w : World} {base : Nat} {a : Option Addr} {c : Nat} {l : List (List UInt8)} (h : OwnG 9 1 encS1 w base (.slice a l.length c) l) : WSP w a (l.map textOf) := by
  cases l with
  | nil => exact .inl rfl
  | cons s l =>
    obtain ⟨b, ha, -, -, -⟩ := OwnG.row (k := 1) (enc := encS1) (fun _ => rfl) h (i := 0) rfl
    refine .inr ⟨b, 0, ha, fun i x hx => ?_⟩
    rw [List.getElem?_map] at hx
    cases hy : (s :: l)[i]? with
    | none => rw [hy] at hx; cases hx
    | some y =>
      rw [hy] at hx
      obtain rfl : textOf y = x := Option.some.inj hx
      obtain ⟨b', ha', -, -, hc⟩ := OwnG.row (k := 1) (enc := encS1) (fun _ => rfl) h hy
      rw [ha] at ha'
      cases ha'
      have := hc 0 (by omega)
      rw [Nat.mul_one, Nat.add_zero] at this
      rw [Nat.zero_add]
      exact this
theorem OwnG.msp {w : World} {base : Nat} {a : Option Addr} {c : Nat} {l : List Mg} (h : OwnG 52 3 encG w base (.slice a l.length c) l) : MSP w a l := by
  cases l with
  | nil => exact .inl rfl
  | cons s l =>
    obtain ⟨b, ha, -, -, -⟩ := OwnG.row (k := 3) (enc := encG) (fun _ => rfl) h (i := 0) rfl
    refine .inr ⟨b, 0, ha, fun i x hx => ?_⟩
    obtain ⟨b', ha', -, -, hc⟩ := OwnG.row (k := 3) (enc := encG) (fun _ => rfl) h hx
    rw [ha] at ha'
    cases ha'
    rw [Nat.zero_add]
    exact ⟨(hc 0 (by omega)).trans rfl, (hc 1 (by omega)).trans rfl, (hc 2 (by omega)).trans rfl⟩
theorem OwnG.sps {w : World} {base : Nat} {a : Option Addr} {c : Nat} {l : List Sp} (h : OwnG 31 2 encS w base (.slice a l.length c) l) : SPS w a l := by
  cases l with
  | nil => exact .inl rfl
  | cons s l =>
    obtain ⟨b, ha, -, -, -⟩ := OwnG.row (k := 2) (enc := encS) (fun _ => rfl) h (i := 0) rfl
    refine .inr ⟨b, 0, ha, fun i x hx => ?_⟩
    obtain ⟨b', ha', -, -, hc⟩ := OwnG.row (k := 2) (enc := encS) (fun _ => rfl) h hx
    rw [ha] at ha'
    cases ha'
    rw [Nat.zero_add]
    exact ⟨(hc 0 (by omega)).trans rfl, (hc 1 (by omega)).trans rfl⟩
set_option maxHeartbeats 4000000 in
theorem reads_ok (src : ByteArray) (d : PD) (b0 b1 b2 b3 b4 : Option Addr) (d0 d1 d2 d3 d4 : Nat) (w : World) (hs : src.size ≤ 4194304) (hp : parseA (tl src) = .ok d) (hn : d.W.length ≤ 4611686018427387904 ∧ d.M.length ≤ 4611686018427387904 ∧ d.A.length ≤ 4611686018427387904 ∧ d.B.length ≤ 4611686018427387904 ∧ d.C.length ≤ 4611686018427387904)
    (k0 : WSP w b0 (d.W.map textOf)) (k1 : MSP w b1 d.M) (k2 : SPS w b2 d.A) (k3 : SPS w b3 d.B) (k4 : SPS w b4 d.C) :
    Calls Tryd.prog 7 #[.string src, .agg #[.slice b0 d.W.length d0, .slice b1 d.M.length d1, .slice b2 d.A.length d2, .slice b3 d.B.length d3, .slice b4 d.C.length d4], .agg #[.int .i64 0, .int .i64 0, .int .i64 0], .int .i64 0] w fun e w' => e = .returned (.bool true) ∧ Below w.heap.size w w' := by
  have HP := fun wx => parse_any src (fun _ => (0, 0)) wx (by omega) (fun y hy => by rw [hp] at hy; cases hy)
  rw [hp] at HP
  obtain ⟨nW, hnW⟩ : ∃ n, n = d.W.length := ⟨_, rfl⟩
  obtain ⟨nM, hnM⟩ : ∃ n, n = d.M.length := ⟨_, rfl⟩
  obtain ⟨nA, hnA⟩ : ∃ n, n = d.A.length := ⟨_, rfl⟩
  obtain ⟨nB, hnB⟩ : ∃ n, n = d.B.length := ⟨_, rfl⟩
  obtain ⟨nC, hnC⟩ : ∃ n, n = d.C.length := ⟨_, rfl⟩
  have HN := Lib.hid hn
  have K0 := Lib.hid k0
  have K1 := Lib.hid k1
  have K2 := Lib.hid k2
  have K3 := Lib.hid k3
  have K4 := Lib.hid k4
  have HNW := Lib.hid hnW
  have HNM := Lib.hid hnM
  have HNA := Lib.hid hnA
  have HNB := Lib.hid hnB
  have HNC := Lib.hid hnC
  rw [← hnW, ← hnM, ← hnA, ← hnB, ← hnC]
  have bx1 := box_below w (.cells #[.slice b0 nW d0, .slice b1 nM d1, .slice b2 nA d2, .slice b3 nB d3, .slice b4 nC d4] 26)
  have hb1 := heap_alloc_new w (.cells #[.slice b0 nW d0, .slice b1 nM d1, .slice b2 nA d2, .slice b3 nB d3, .slice b4 nC d4] 26)
  obtain ⟨w1, hw1⟩ : ∃ w1, w1 = w.alloc (.cells #[.slice b0 nW d0, .slice b1 nM d1, .slice b2 nA d2, .slice b3 nB d3, .slice b4 nC d4] 26) := ⟨_, rfl⟩
  have hs1 : w1.heap.size = w.heap.size + 1 := by rw [hw1]; simp
  rw [← hw1] at bx1 hb1
  have bx2 := box_below w1 (.cells #[.int .i64 0, .int .i64 0, .int .i64 0] 34)
  have hb2 := heap_alloc_new w1 (.cells #[.int .i64 0, .int .i64 0, .int .i64 0] 34)
  obtain ⟨w2, hw2⟩ : ∃ w2, w2 = w1.alloc (.cells #[.int .i64 0, .int .i64 0, .int .i64 0] 34) := ⟨_, rfl⟩
  have hs2 : w2.heap.size = w.heap.size + 2 := by rw [hw2]; simp; omega
  rw [← hw2] at bx2 hb2
  rw [hs1] at hb2
  have hb1 := (bx2.block w.heap.size (by omega)).trans hb1
  have HB2 := Lib.hid (bx1.trans (bx2.mono bx1.size))
  have HW1 := Lib.hid hw1
  have HW2 := Lib.hid hw2
  have HD1 := Lib.hid hb1
  have HD2 := Lib.hid hb2
  have HS2 := Lib.hid hs2
  clear hp hn k0 k1 k2 k3 k4 hnW hnM hnA hnB hnC bx1 bx2 hw1 hw2 hs1 hs2 hb1 hb2
  go_enter Tryd.func7, Tryd.ntmps7
  go_wp2_with fail
  rw [← HW1.out, ← HW2.out]
  refine (HP _).mono ?_
  rintro e w3 ⟨hb3, vW, vM, vA, vB, vC, rfl, hO⟩
  obtain ⟨xW, cW, rfl⟩ := hO.oW.slice
  obtain ⟨xM, cM, rfl⟩ := hO.oM.slice
  obtain ⟨xA, cA, rfl⟩ := hO.oA.slice
  obtain ⟨xB, cB, rfl⟩ := hO.oB.slice
  obtain ⟨xC, cC, rfl⟩ := hO.oC.slice
  have j0 := hO.oW.wsp
  have j1 := hO.oM.msp
  have j2 := hO.oA.sps
  have j3 := hO.oB.sps
  have j4 := hO.oC.sps
  have bb2 := HB2.out
  have hD1 := (hb3.block w.heap.size (by have := HS2.out; omega)).trans HD1.out
  have hD2 := (hb3.block (w.heap.size + 1) (by have := HS2.out; omega)).trans HD2.out
  have hb3' := bb2.trans (hb3.mono bb2.size)
  have bx4 := box_below w3 (.cells #[.slice xW d.W.length cW, .slice xM d.M.length cM, .slice xA d.A.length cA, .slice xB d.B.length cB, .slice xC d.C.length cC] 26)
  have bx5 := bx4.trans ((box_below (w3.alloc (.cells #[.slice xW d.W.length cW, .slice xM d.M.length cM, .slice xA d.A.length cA, .slice xB d.B.length cB, .slice xC d.C.length cC] 26)) (.cells #[.int .i64 0, .int .i64 0, .int .i64 0] 37)).mono bx4.size)
  have i0 := (K0.out.below hb3').below bx5
  have i1 := (K1.out.below hb3').below bx5
  have i2 := (K2.out.below hb3').below bx5
  have i3 := (K3.out.below hb3').below bx5
  have i4 := (K4.out.below hb3').below bx5
  have j0 := j0.below bx5
  have j1 := j1.below bx5
  have j2 := j2.below bx5
  have j3 := j3.below bx5
  have j4 := j4.below bx5
  have hE1 := (bx5.block w.heap.size (by have := hb3'.size; have := (Array.getElem?_eq_some_iff.1 hD1).1; omega)).trans hD1
  have hE2 := (bx5.block (w.heap.size + 1) (by have := (Array.getElem?_eq_some_iff.1 hD2).1; omega)).trans hD2
  have hlen : (d.W.map textOf).length = d.W.length := by simp
  have HSM := keepSame_any xW xM xA xB xC b0 b1 b2 b3 b4 cW cM cA cB cC d0 d1 d2 d3 d4 (d.W.map textOf) d.M d.A d.B d.C _ (by rw [hlen]; exact HN.out) j0 j1 j2 j3 j4 i0 i1 i2 i3 i4
  rw [hlen, ← HNW.out, ← HNM.out, ← HNA.out, ← HNB.out, ← HNC.out] at HSM
  rw [← HNW.out, ← HNM.out, ← HNA.out, ← HNB.out, ← HNC.out] at bx5 hE1 hE2
  have HBX := Lib.hid (hb3'.trans (bx5.mono hb3'.size))
  have y0 : ((w3.alloc (.cells #[.slice xW nW cW, .slice xM nM cM, .slice xA nA cA, .slice xB nB cB, .slice xC nC cC] 26)).alloc (.cells #[.int .i64 0, .int .i64 0, .int .i64 0] 37)).cell? ⟨w.heap.size, 0, none⟩ = some (.slice b0 nW d0) := (cell_of_block hE1 0).trans rfl
  have y1 : ((w3.alloc (.cells #[.slice xW nW cW, .slice xM nM cM, .slice xA nA cA, .slice xB nB cB, .slice xC nC cC] 26)).alloc (.cells #[.int .i64 0, .int .i64 0, .int .i64 0] 37)).cell? ⟨w.heap.size, 1, none⟩ = some (.slice b1 nM d1) := (cell_of_block hE1 1).trans rfl
  have y2 : ((w3.alloc (.cells #[.slice xW nW cW, .slice xM nM cM, .slice xA nA cA, .slice xB nB cB, .slice xC nC cC] 26)).alloc (.cells #[.int .i64 0, .int .i64 0, .int .i64 0] 37)).cell? ⟨w.heap.size, 2, none⟩ = some (.slice b2 nA d2) := (cell_of_block hE1 2).trans rfl
  have y3 : ((w3.alloc (.cells #[.slice xW nW cW, .slice xM nM cM, .slice xA nA cA, .slice xB nB cB, .slice xC nC cC] 26)).alloc (.cells #[.int .i64 0, .int .i64 0, .int .i64 0] 37)).cell? ⟨w.heap.size, 3, none⟩ = some (.slice b3 nB d3) := (cell_of_block hE1 3).trans rfl
  have y4 : ((w3.alloc (.cells #[.slice xW nW cW, .slice xM nM cM, .slice xA nA cA, .slice xB nB cB, .slice xC nC cC] 26)).alloc (.cells #[.int .i64 0, .int .i64 0, .int .i64 0] 37)).cell? ⟨w.heap.size, 4, none⟩ = some (.slice b4 nC d4) := (cell_of_block hE1 4).trans rfl
  have z0 : ((w3.alloc (.cells #[.slice xW nW cW, .slice xM nM cM, .slice xA nA cA, .slice xB nB cB, .slice xC nC cC] 26)).alloc (.cells #[.int .i64 0, .int .i64 0, .int .i64 0] 37)).cell? ⟨w.heap.size + 1, 0, none⟩ = some (.int .i64 0) := (cell_of_block hE2 0).trans rfl
  have z1 : ((w3.alloc (.cells #[.slice xW nW cW, .slice xM nM cM, .slice xA nA cA, .slice xB nB cB, .slice xC nC cC] 26)).alloc (.cells #[.int .i64 0, .int .i64 0, .int .i64 0] 37)).cell? ⟨w.heap.size + 1, 1, none⟩ = some (.int .i64 0) := (cell_of_block hE2 1).trans rfl
  have z2 : ((w3.alloc (.cells #[.slice xW nW cW, .slice xM nM cM, .slice xA nA cA, .slice xB nB cB, .slice xC nC cC] 26)).alloc (.cells #[.int .i64 0, .int .i64 0, .int .i64 0] 37)).cell? ⟨w.heap.size + 1, 2, none⟩ = some (.int .i64 0) := (cell_of_block hE2 2).trans rfl
  rw [← HNW.out, ← HNM.out, ← HNA.out, ← HNB.out, ← HNC.out]
  clear j0 j1 j2 j3 j4 i0 i1 i2 i3 i4 hE1 hE2 hD1 hD2 bx4 bx5 hO hb3 hb3' bb2 hlen HP
  go_wp2_with fail
  refine HSM.mono ?_
  rintro e w6 ⟨rfl, hb6⟩
  go_wp2_with fail
  go_ret
  exact ⟨rfl, HBX.out.trans (hb6.mono HBX.out.size)⟩
end Go.Proofs.YtonbfcpbgkpbaaaDoor
end
section
/- The law's known: its contract. -/
namespace Go.Proofs.YtonbfcpbgkpbaaaDoor
open Go.RowKit Go.Sort Go.Joins
set_option linter.unusedVariables false
set_option linter.unusedSimpArgs false
set_option maxRecDepth 100000
def kSrc : ByteArray := ⟨#[109, 101, 114, 103, 101, 32, 34, 97, 34, 43, 34, 98, 34, 61, 50, 53, 54, 32, 115, 112, 97, 99, 101, 115, 123, 85, 43, 48, 48, 50, 48, 125]⟩
theorem parse_known : parseA (tl kSrc) = .ok ⟨[[97, 98]], [⟨97, 98, 256⟩], [], [], [⟨32, 32⟩]⟩ := by kernel_rfl
theorem quote_known : textOf (quoteF (tl ⟨#[97, 34, 10]⟩)) = ⟨#[34, 97, 92, 34, 92, 48, 97, 34]⟩ := by kernel_rfl
set_option maxHeartbeats 2000000 in
theorem known_any (w : World) : Calls Tryd.prog 8 #[] w fun e w' => e = .returned (.bool true) ∧ Below w.heap.size w w' := by
  have b1 := box_below w (.cells #[.string ⟨#[97, 98]⟩] 9)
  have k1 : WSP (w.alloc (.cells #[.string ⟨#[97, 98]⟩] 9)) (some ⟨w.heap.size, 0, none⟩) [⟨#[97, 98]⟩] := WSP.new w [⟨#[97, 98]⟩] 9
  obtain ⟨w1, hw1⟩ : ∃ w1, w1 = w.alloc (.cells #[.string ⟨#[97, 98]⟩] 9) := ⟨_, rfl⟩
  rw [← hw1] at b1 k1
  have hs1 : w1.heap.size = w.heap.size + 1 := by rw [hw1]; simp
  have b2 := box_below w1 (.cells #[.int .i64 97, .int .i64 98, .int .i64 256] 52)
  have k2 : MSP (w1.alloc (.cells #[.int .i64 97, .int .i64 98, .int .i64 256] 52)) (some ⟨w1.heap.size, 0, none⟩) [⟨97, 98, 256⟩] := MSP.new w1 [⟨97, 98, 256⟩] 52
  obtain ⟨w2, hw2⟩ : ∃ w2, w2 = w1.alloc (.cells #[.int .i64 97, .int .i64 98, .int .i64 256] 52) := ⟨_, rfl⟩
  rw [← hw2] at b2 k2
  have hs2 : w2.heap.size = w.heap.size + 2 := by rw [hw2]; simp; omega
  have b3 := box_below w2 (.cells #[.int .i32 32, .int .i32 32] 31)
  have k3 : SPS (w2.alloc (.cells #[.int .i32 32, .int .i32 32] 31)) (some ⟨w2.heap.size, 0, none⟩) [⟨32, 32⟩] := SPS.new w2 [⟨32, 32⟩] 31
  obtain ⟨w3, hw3⟩ : ∃ w3, w3 = w2.alloc (.cells #[.int .i32 32, .int .i32 32] 31) := ⟨_, rfl⟩
  rw [← hw3] at b3 k3
  have HR := reads_ok kSrc ⟨[[97, 98]], [⟨97, 98, 256⟩], [], [], [⟨32, 32⟩]⟩ (some ⟨w.heap.size, 0, none⟩) (some ⟨w1.heap.size, 0, none⟩) none none (some ⟨w2.heap.size, 0, none⟩) 1 1 0 0 1 w3 (by decide) parse_known ⟨by decide, by decide, by decide, by decide, by decide⟩ ((k1.below b2).below b3) (k2.below b3) (.inl rfl) (.inl rfl) k3
  have hb := (b1.trans (b2.mono b1.size)).trans (b3.mono (Nat.le_trans b1.size b2.size))
  have HQ := fun wx => quote_any ⟨#[97, 34, 10]⟩ wx (by decide)
  rw [quote_known] at HQ
  have HW1 := Lib.hid hw1
  have HW2 := Lib.hid hw2
  have HW3 := Lib.hid hw3
  have HB := Lib.hid hb
  have HS1 := Lib.hid hs1
  have HS2 := Lib.hid hs2
  unfold kSrc at HR
  rw [hs1, hs2] at HR
  clear hw1 hw2 hw3 hb hs1 hs2 b1 b2 b3 k1 k2 k3
  go_enter Tryd.func8, Tryd.ntmps8
  go_wp2_with fail
  rw [← HW1.out, ← HW2.out, ← HW3.out]
  refine HR.mono ?_
  rintro e w4 ⟨rfl, hb4⟩
  go_wp2_with fail
  refine (HQ _).mono ?_
  rintro e w5 ⟨rfl, hb5⟩
  go_wp2_with fail
  go_ret
  exact ⟨rfl, (HB.out.trans (hb4.mono HB.out.size)).trans (hb5.mono (Nat.le_trans HB.out.size hb4.size))⟩
end Go.Proofs.YtonbfcpbgkpbaaaDoor
end
section
/- The law's reads where a text is refused; what of chapter 7's runs is refused: the mathematics. -/
namespace Go.Proofs.YtonbfcpbgkpbaaaDoor
open Go.RowKit Go.Sort Go.Joins
set_option linter.unusedVariables false
set_option linter.unusedSimpArgs false
set_option maxRecDepth 100000
set_option maxHeartbeats 2000000 in
theorem reads_err (src : ByteArray) (y k L C : Nat) (w : World) (hs : src.size ≤ 4611686018427387904) (hp : parseA (tl src) = .error (y, k)) (hpl : PlaceCon src (fun _ => (L, C)) y) :
    Calls Tryd.prog 7 #[.string src, .agg #[.slice none 0 0, .slice none 0 0, .slice none 0 0, .slice none 0 0, .slice none 0 0], .agg #[.int .i64 (y : Nat), .int .i64 (L : Nat), .int .i64 (C : Nat)], .int .i64 (k : Nat)] w fun e w' => e = .returned (.bool true) ∧ Below w.heap.size w w' := by
  have HP := fun wx => parse_any src (fun _ => (L, C)) wx (by omega) (fun y' hy => by rw [hp] at hy; cases hy; exact hpl)
  rw [hp] at HP
  have bx1 := box_below w (.cells #[.slice none 0 0, .slice none 0 0, .slice none 0 0, .slice none 0 0, .slice none 0 0] 26)
  have hb1 := heap_alloc_new w (.cells #[.slice none 0 0, .slice none 0 0, .slice none 0 0, .slice none 0 0, .slice none 0 0] 26)
  obtain ⟨w1, hw1⟩ : ∃ w1, w1 = w.alloc (.cells #[.slice none 0 0, .slice none 0 0, .slice none 0 0, .slice none 0 0, .slice none 0 0] 26) := ⟨_, rfl⟩
  have hs1 : w1.heap.size = w.heap.size + 1 := by rw [hw1]; simp
  rw [← hw1] at bx1 hb1
  have bx2 := box_below w1 (.cells #[.int .i64 (y : Nat), .int .i64 (L : Nat), .int .i64 (C : Nat)] 34)
  have hb2 := heap_alloc_new w1 (.cells #[.int .i64 (y : Nat), .int .i64 (L : Nat), .int .i64 (C : Nat)] 34)
  obtain ⟨w2, hw2⟩ : ∃ w2, w2 = w1.alloc (.cells #[.int .i64 (y : Nat), .int .i64 (L : Nat), .int .i64 (C : Nat)] 34) := ⟨_, rfl⟩
  have hs2 : w2.heap.size = w.heap.size + 2 := by rw [hw2]; simp; omega
  rw [← hw2] at bx2 hb2
  rw [hs1] at hb2
  have hb1 := (bx2.block w.heap.size (by omega)).trans hb1
  have HB2 := Lib.hid (bx1.trans (bx2.mono bx1.size))
  have HW1 := Lib.hid hw1
  have HW2 := Lib.hid hw2
  have HD1 := Lib.hid hb1
  have HD2 := Lib.hid hb2
  have HS2 := Lib.hid hs2
  clear hp hpl bx1 bx2 hw1 hw2 hs1 hs2 hb1 hb2
  go_enter Tryd.func7, Tryd.ntmps7
  go_wp2_with fail
  rw [← HW1.out, ← HW2.out]
  refine (HP _).mono ?_
  rintro e w3 ⟨hb3, he⟩
  simp only at he
  subst he
  unfold nil5
  have bb2 := HB2.out
  have hD1 := (hb3.block w.heap.size (by have := HS2.out; omega)).trans HD1.out
  have hD2 := (hb3.block (w.heap.size + 1) (by have := HS2.out; omega)).trans HD2.out
  have hb3' := bb2.trans (hb3.mono bb2.size)
  have bx4 := box_below w3 (.cells #[.slice none 0 0, .slice none 0 0, .slice none 0 0, .slice none 0 0, .slice none 0 0] 26)
  have bx5 := bx4.trans ((box_below (w3.alloc (.cells #[.slice none 0 0, .slice none 0 0, .slice none 0 0, .slice none 0 0, .slice none 0 0] 26)) (.cells #[.int .i64 (y : Nat), .int .i64 (L : Nat), .int .i64 (C : Nat)] 37)).mono bx4.size)
  have hn5 := heap_alloc_new (w3.alloc (.cells #[.slice none 0 0, .slice none 0 0, .slice none 0 0, .slice none 0 0, .slice none 0 0] 26)) (.cells #[.int .i64 (y : Nat), .int .i64 (L : Nat), .int .i64 (C : Nat)] 37)
  have hn4 := heap_alloc_new w3 (.cells #[.slice none 0 0, .slice none 0 0, .slice none 0 0, .slice none 0 0, .slice none 0 0] 26)
  rw [World.size_alloc] at hn5
  have hn4 := (Below.heap_alloc (w3.alloc (.cells #[.slice none 0 0, .slice none 0 0, .slice none 0 0, .slice none 0 0, .slice none 0 0] 26)) (.cells #[.int .i64 (y : Nat), .int .i64 (L : Nat), .int .i64 (C : Nat)] 37) w3.heap.size (by simp)).trans hn4
  have hE1 := (bx5.block w.heap.size (by have := hb3'.size; have := (Array.getElem?_eq_some_iff.1 hD1).1; omega)).trans hD1
  have hE2 := (bx5.block (w.heap.size + 1) (by have := (Array.getElem?_eq_some_iff.1 hD2).1; omega)).trans hD2
  go_upto_region 2 with fail
  obtain ⟨W5, hW5⟩ : ∃ W5, W5 = (w3.alloc (.cells #[.slice none 0 0, .slice none 0 0, .slice none 0 0, .slice none 0 0, .slice none 0 0] 26)).alloc (.cells #[.int .i64 (y : Nat), .int .i64 (L : Nat), .int .i64 (C : Nat)] 37) := ⟨_, rfl⟩
  rw [← hW5] at hE1 hE2 hn4 hn5 bx5 ⊢
  clear hW5
  have HSM := keepSame_any none none none none none none none none none none 0 0 0 0 0 0 0 0 0 0 [] [] [] [] [] W5 ⟨by decide, by decide, by decide, by decide, by decide⟩ (.inl rfl) (.inl rfl) (.inl rfl) (.inl rfl) (.inl rfl) (.inl rfl) (.inl rfl) (.inl rfl) (.inl rfl) (.inl rfl)
  have HBX := Lib.hid (hb3'.trans (bx5.mono hb3'.size))
  have y0 : W5.cell? ⟨w.heap.size, 0, none⟩ = some (.slice none 0 0) := by rw [cell_of_block hE1]; rfl
  have y1 : W5.cell? ⟨w.heap.size, 1, none⟩ = some (.slice none 0 0) := by rw [cell_of_block hE1]; rfl
  have y2 : W5.cell? ⟨w.heap.size, 2, none⟩ = some (.slice none 0 0) := by rw [cell_of_block hE1]; rfl
  have y3 : W5.cell? ⟨w.heap.size, 3, none⟩ = some (.slice none 0 0) := by rw [cell_of_block hE1]; rfl
  have y4 : W5.cell? ⟨w.heap.size, 4, none⟩ = some (.slice none 0 0) := by rw [cell_of_block hE1]; rfl
  have z0 : W5.cell? ⟨w.heap.size + 1, 0, none⟩ = some (.int .i64 (y : Nat)) := by rw [cell_of_block hE2]; rfl
  have z1 : W5.cell? ⟨w.heap.size + 1, 1, none⟩ = some (.int .i64 (L : Nat)) := by rw [cell_of_block hE2]; rfl
  have z2 : W5.cell? ⟨w.heap.size + 1, 2, none⟩ = some (.int .i64 (C : Nat)) := by rw [cell_of_block hE2]; rfl
  have u0 : W5.cell? ⟨w3.heap.size, 0, none⟩ = some (.slice none 0 0) := by rw [cell_of_block hn4]; rfl
  have u1 : W5.cell? ⟨w3.heap.size, 1, none⟩ = some (.slice none 0 0) := by rw [cell_of_block hn4]; rfl
  have u2 : W5.cell? ⟨w3.heap.size, 2, none⟩ = some (.slice none 0 0) := by rw [cell_of_block hn4]; rfl
  have u3 : W5.cell? ⟨w3.heap.size, 3, none⟩ = some (.slice none 0 0) := by rw [cell_of_block hn4]; rfl
  have u4 : W5.cell? ⟨w3.heap.size, 4, none⟩ = some (.slice none 0 0) := by rw [cell_of_block hn4]; rfl
  have t0 : W5.cell? ⟨w3.heap.size + 1, 0, none⟩ = some (.int .i64 (y : Nat)) := by rw [cell_of_block hn5]; rfl
  have t1 : W5.cell? ⟨w3.heap.size + 1, 1, none⟩ = some (.int .i64 (L : Nat)) := by rw [cell_of_block hn5]; rfl
  have t2 : W5.cell? ⟨w3.heap.size + 1, 2, none⟩ = some (.int .i64 (C : Nat)) := by rw [cell_of_block hn5]; rfl
  have e0 : (((k : Nat) : Int) == ((k : Nat) : Int)) = true := by simp
  have e1 : (((y : Nat) : Int) == ((y : Nat) : Int)) = true := by simp
  have e2 : (((L : Nat) : Int) == ((L : Nat) : Int)) = true := by simp
  have e3 : (((C : Nat) : Int) == ((C : Nat) : Int)) = true := by simp
  clear hE1 hE2 hD1 hD2 hn4 hn5 bx4 bx5 hb3 hb3' bb2 HP
  go_wp2_with fail
  refine HSM.mono ?_
  rintro e w6 ⟨rfl, hb6⟩
  go_wp2_with fail
  go_ret
  exact ⟨rfl, HBX.out.trans (hb6.mono HBX.out.size)⟩
def s1 : ByteArray := ⟨#[109, 101, 114, 103, 101, 32, 34, 97, 98, 34, 32, 43, 32, 34, 99, 34, 32, 61, 32, 50, 53, 54]⟩
def s2 : ByteArray := ⟨#[109, 101, 114, 103, 101, 32, 34, 97, 34, 32, 43, 32, 34, 98, 34, 32, 61, 32, 50, 53, 53]⟩
def s3 : ByteArray := ⟨#[109, 101, 114, 103, 101, 32, 34, 97, 34, 32, 43, 32, 34, 98, 34, 32, 61, 32, 50, 53, 55]⟩
def s4 : ByteArray := ⟨#[109, 101, 114, 103, 101, 32, 34, 97, 34, 32]⟩
def s5 : ByteArray := ⟨#[109, 101, 114, 103, 101, 32, 34, 97]⟩
def s6 : ByteArray := ⟨#[109, 101, 114, 103, 101, 32, 97]⟩
def s7 : ByteArray := ⟨#[108, 101, 116, 116, 101, 114, 115, 32, 123, 32, 85, 43, 48, 48, 52, 49, 32, 46, 46, 32, 85, 43, 48, 48, 53, 65, 32, 85, 43, 54, 49, 32, 125]⟩
theorem p0 : parseA (tl ⟨#[]⟩) = .ok ⟨[], [], [], [], []⟩ := by kernel_rfl
theorem p1 : parseA (tl s1) = .error (6, 23) := by kernel_rfl
theorem p2 : parseA (tl s2) = .error (18, 24) := by kernel_rfl
theorem p3 : parseA (tl s3) = .error (18, 24) := by kernel_rfl
theorem p4 : parseA (tl s4) = .error (10, 31) := by kernel_rfl
theorem p5 : parseA (tl s5) = .error (8, 31) := by kernel_rfl
theorem p6 : parseA (tl s6) = .error (6, 30) := by kernel_rfl
theorem p7 : parseA (tl s7) = .error (27, 30) := by kernel_rfl
theorem q1 : plT s1 6 = (1, 7) := by kernel_rfl
theorem q2 : plT s2 18 = (1, 19) := by kernel_rfl
theorem q3 : plT s3 18 = (1, 19) := by kernel_rfl
theorem q4 : plT s4 10 = (1, 11) := by kernel_rfl
theorem q5 : plT s5 8 = (1, 9) := by kernel_rfl
theorem q6 : plT s6 6 = (1, 7) := by kernel_rfl
theorem q7 : plT s7 27 = (1, 28) := by kernel_rfl
theorem placed {src : ByteArray} {y L C : Nat} (hs : y ≤ 4194304) (hy : y ≤ src.size) (hq : plT src y = (L, C)) : PlaceCon src (fun _ => (L, C)) y := fun wx => by
  have h := placeOf_upto src y hs hy wx
  rw [hq] at h
  exact h
end Go.Proofs.YtonbfcpbgkpbaaaDoor
end
section
/- A text of as many zeros as no recipe may have: how it is made; what reads answers of chapter 7's runs. -/
namespace Go.Proofs.YtonbfcpbgkpbaaaDoor
open Go.RowKit Go.Sort Go.Joins
set_option linter.unusedVariables false
set_option linter.unusedSimpArgs false
set_option maxRecDepth 100000
theorem zeros_make (n : Nat) (h1 : 1 ≤ n) (hn : n ≤ 4294967296) : ∃ (Z : Array Value) (S : ByteArray), S.size = n ∧ (∀ u : World, (Instr.makeSlice 35 (.int .i64 (n : Nat)) (.int .i64 (n : Nat))).run Tryd.prog u = .ok (.slice (some ⟨u.heap.size, 0, none⟩) n n) (u.alloc (.cells Z 5))) ∧ ∀ (u : World) (g : Nat), u.heap[g]? = some (.cells Z 5 (0, 0)) → (convert 35 9 (.slice (some ⟨g, 0, none⟩) n n)).run Tryd.prog u = .ok (.string S) u := by
  obtain ⟨i0, hi, hz0, hz1, hz2⟩ := info_parts Oc.info5
  have hZ : ∀ j, j < n → (madeCells (Value.int IntKind.u8 0).cells (n * i0.size))[j]? = some (Value.int IntKind.u8 0) := by
    intro j hj
    rw [hz1, Nat.mul_one]
    simp [madeCells, Value.cells, Nat.mod_one, hj]
  refine ⟨madeCells (Value.int IntKind.u8 0).cells (n * i0.size), strOfNums (List.replicate n 0), by simp [strOfNums, ByteArray.size], fun u => ?_, fun u g hb => ?_⟩
  · have h := run_make (P := Tryd.prog) u 35 5 i0 _ Tryd.underlying35 hi hz0 .i64 .i64 (n : Int) (n : Int) (by omega) (Int.le_refl _) (by rw [hz2]; omega) (by omega)
    have e : ((n : Int)).toNat = n := by omega
    rw [e] at h
    exact h
  · exact run_convert_bytes_arg (P := Tryd.prog) u 35 5 Tryd.underlying35 Tryd.underlying5 g 0 n n (List.replicate n 0) (by simp) (fun j hj => by
      rw [cell_of_block hb, Nat.zero_add, hZ j hj]
      simp [List.getD, hj]) 9 Tryd.underlying9
theorem plT_zero (S : ByteArray) : plT S 0 = (1, 1) := by
  have h : aheadT S 0 = ⟨#[]⟩ := by
    unfold aheadT
    apply ByteArray.ext
    simp
  have h2 : lineT S 0 = ⟨#[]⟩ := by
    have hs : (lineT S 0).size = 0 := by
      unfold lineT
      rw [ByteArray.size_extract, h]
      show min 0 _ - _ = 0
      omega
    apply ByteArray.ext
    exact Array.eq_empty_of_size_eq_zero hs
  unfold plT
  rw [h, h2]
  rfl
abbrev Rd (src : ByteArray) (y L C k : Int) : Prop := ∀ w : World, Calls Tryd.prog 7 #[.string src, .agg #[.slice none 0 0, .slice none 0 0, .slice none 0 0, .slice none 0 0, .slice none 0 0], .agg #[.int .i64 y, .int .i64 L, .int .i64 C], .int .i64 k] w fun e w' => e = .returned (.bool true) ∧ Below w.heap.size w w'
theorem r0 : Rd ⟨#[]⟩ 0 0 0 0 := fun w => reads_ok ⟨#[]⟩ ⟨[], [], [], [], []⟩ none none none none none 0 0 0 0 0 w (by decide) p0 ⟨by decide, by decide, by decide, by decide, by decide⟩ (.inl rfl) (.inl rfl) (.inl rfl) (.inl rfl) (.inl rfl)
theorem r1 : Rd ⟨#[109, 101, 114, 103, 101, 32, 34, 97, 98, 34, 32, 43, 32, 34, 99, 34, 32, 61, 32, 50, 53, 54]⟩ 6 1 7 23 := fun w => reads_err s1 6 23 1 7 w (by decide) p1 (placed (by decide) (by decide) q1)
theorem r2 : Rd ⟨#[109, 101, 114, 103, 101, 32, 34, 97, 34, 32, 43, 32, 34, 98, 34, 32, 61, 32, 50, 53, 53]⟩ 18 1 19 24 := fun w => reads_err s2 18 24 1 19 w (by decide) p2 (placed (by decide) (by decide) q2)
theorem r3 : Rd ⟨#[109, 101, 114, 103, 101, 32, 34, 97, 34, 32, 43, 32, 34, 98, 34, 32, 61, 32, 50, 53, 55]⟩ 18 1 19 24 := fun w => reads_err s3 18 24 1 19 w (by decide) p3 (placed (by decide) (by decide) q3)
theorem r4 : Rd ⟨#[109, 101, 114, 103, 101, 32, 34, 97, 34, 32]⟩ 10 1 11 31 := fun w => reads_err s4 10 31 1 11 w (by decide) p4 (placed (by decide) (by decide) q4)
theorem r5 : Rd ⟨#[109, 101, 114, 103, 101, 32, 34, 97]⟩ 8 1 9 31 := fun w => reads_err s5 8 31 1 9 w (by decide) p5 (placed (by decide) (by decide) q5)
theorem r6 : Rd ⟨#[109, 101, 114, 103, 101, 32, 97]⟩ 6 1 7 30 := fun w => reads_err s6 6 30 1 7 w (by decide) p6 (placed (by decide) (by decide) q6)
theorem r7 : Rd ⟨#[108, 101, 116, 116, 101, 114, 115, 32, 123, 32, 85, 43, 48, 48, 52, 49, 32, 46, 46, 32, 85, 43, 48, 48, 53, 65, 32, 85, 43, 54, 49, 32, 125]⟩ 27 1 28 30 := fun w => reads_err s7 27 30 1 28 w (by decide) p7 (placed (by decide) (by decide) q7)
theorem r8 (S : ByteArray) (h : 4194304 < S.size) (h2 : S.size ≤ 4611686018427387904) : Rd S 0 1 1 3 := fun w => reads_err S 0 3 1 1 w h2 (parseA_long (by rw [tl_len]; omega)) (placed (by decide) (Nat.zero_le _) (plT_zero S))
end Go.Proofs.YtonbfcpbgkpbaaaDoor
end
