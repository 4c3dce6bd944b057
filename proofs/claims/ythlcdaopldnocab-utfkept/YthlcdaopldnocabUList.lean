/- The law's 'list': what an iterator hands out. -/
import Derived.Test.YthlcdaopldnocabUIter
import Derived.Test.YthlcdaopldnocabItRow
namespace Go.Proofs.Ythlcdaopldnocab
open Go.RowKit Go.Shelf
open Go.Joins
attribute [local go_sem] Oper.semAt_some
theorem wpListIn_append_run {F : Fence} {n : Nat} {P : Program} {w : World} {ops : Array Oper} {rest : List Oper} {o : Oper} {a : Act} {Q : Exit → Act → World → Prop} (hgd : o.guard = none) (s x : Operand) (t tx : TypeId)
    (ho : o.op = .call { callee := .builtin .append, args := #[s, x], argTypes := #[t, tx] }) (v y : Value) (hs : a.eval s = v) (hx : a.eval x = y) (v' : Value) (w' : World)
    (hr : (Builtin.append_ #[t, tx] o.type #[v, y]).run P w = .ok v' w') (h : wpListIn F n P ops Q rest (a.put o.dst v') w') : wpListIn F n P ops Q (o :: rest) a w := by
  refine wpListIn_plain hgd fun K hK' => ?_
  unfold Oper.wpIn
  refine ⟨?_, ?_⟩
  · simp [Oper.about, ho, resolve, Target.leads, Sem.run_pure]
  · rw [Oper.semAt_plain F _ _ (by rw [ho]; intro c hc'; cases hc')]
    simp [execOp, ho, resolve, invoke, builtin, hs, hx, hr, Result.andThen]
    exact hK' _ _ h
theorem info29 : (Try.prog.info? 29).map (fun i => (i.zero, i.size, i.bytes)) = some (some (.agg #[.int .i64 0, .int .i64 0, .int .i32 0, .bool false]), 4, 24) := by kernel_rfl
theorem cells_it {W : World} {b : Nat} {x : It} {T : TypeId} {fr : Nat × Nat} (h : W.heap[b]? = some (.cells (cellI x).toArray T fr)) :
    W.cell? ⟨b, 0, none⟩ = some (.int .i64 (x.frm : Nat)) ∧ W.cell? ⟨b, 1, none⟩ = some (.int .i64 (x.bytes : Nat)) ∧ W.cell? ⟨b, 2, none⟩ = some (.int .i32 (x.rune : Nat)) ∧ W.cell? ⟨b, 3, none⟩ = some (.bool x.bad) := by
  refine ⟨?_, ?_, ?_, ?_⟩ <;> rw [cell_of_block h] <;> rfl
theorem RowTurn.keeps {T : TypeId} {base : Nat} {A w' : World} (h : RowTurn T base A w') {k : Nat} {o : Obj} (hk : A.heap[k]? = some o) (hno : ∀ c, o = .cells c T (0, 0) → c.size = 4) : w'.heap[k]? = some o := by
  have hlt := (Array.getElem?_eq_some_iff.1 hk).1
  rcases h with h | ⟨g, c, hg, hc, _, h⟩
  · exact (h.block k hlt (by simp)).trans hk
  · refine (h.block k hlt (fun e => ?_)).trans hk
    obtain rfl : k = g := by simpa using e
    rw [hg] at hk
    exact hc (hno c (Option.some.inj hk).symm)
theorem RowTurn.others {T : TypeId} {base : Nat} {A w' : World} (h : RowTurn T base A w') : KeepsOthers A w' := by
  rcases h with h | ⟨g, c, hg, hc, _, h⟩
  · exact KeepsOthers.of_grownBy h (fun j o e _ => by cases e)
  · exact KeepsOthers.of_grownBy h (fun j o e hj => by cases e; rw [hg] at hj; cases hj; rfl)
/-- What an append of one item to a row in a box leaves. -/
theorem it_appended {W w1 : World} {n₀ B S : Nat} {o : Obj} {v : Value} (v' : Value) (hv : Boxed W B S v) (hS : S ≠ 29) (hn : n₀ ≤ B) (ht : RowTurn 29 n₀ (W.alloc o) w1) :
    Boxed w1 B S v ∧ Boxed (w1.setCell ⟨B, 0, none⟩ v') B S v' ∧ KeepsOthers W (w1.setCell ⟨B, 0, none⟩ v') ∧ KpI n₀ W (w1.setCell ⟨B, 0, none⟩ v') := by
  have hB := hv.lt
  have hv1 : Boxed w1 B S v := ht.keeps (hv.alloc o) (fun c e => by injection e with _ e _; exact absurd e hS)
  refine ⟨hv1, hv1.set v', ((KeepsOthers.alloc W o).trans ht.others).trans (KeepsOthers.setCell _ _ _), ?_, ?_⟩
  · exact (((Below.refl n₀ W).alloc (by omega) o).trans (ht.below (by simp; omega))).setCell (p := ⟨B, 0, none⟩) hn v'
  · intro k c hk hc
    have hlt := (Array.getElem?_eq_some_iff.1 hk).1
    have h1 : (W.alloc o).heap[k]? = some (.cells c 29 (0, 0)) := (Below.heap_alloc W o k hlt).trans hk
    have h2 := ht.keeps h1 (fun c' e => by injection e with e _ _; rw [← e]; exact hc)
    rw [Below.heap_setCell _ _ _ k (fun e => by
      have e' : k = B := e
      subst e'
      have := (show W.heap[k]? = _ from hv).symm.trans hk
      injection this with this
      injection this with _ e2 _
      exact hS e2), h2, hk]
set_option maxRecDepth 100000 in
set_option maxHeartbeats 4000000 in
theorem list_any (s : ByteArray) (hs : s.size ≤ 4294967296) (w : World) :
    Calls Try.prog 7 #[.string s] w fun e w' => ∃ v, e = .returned (.tuple #[v, .bool true]) ∧ OwnI 29 w' w.heap.size v (items 0 (tl s)) ∧ Below w.heap.size w w' := by
  refine (callsIn_wide (n := 3)).1 ?_
  have h1 : 1 ≤ 3 := by omega
  have hN := items_length (tl s) 0
  rw [tl_len] at hN
  obtain ⟨i0, hi, hz0, hz1, hz2⟩ := info_parts info29
  have hnf : ∀ (wx : World) (lb : Array Value), (binOp BinOp.eql 46 (.func (.func 23) #[] lb) .nilFunc).run Try.prog wx = .ok (.bool false) wx := fun wx lb => by rfl
  refine callsIn_of_wp_marks Try.func7 rfl trivial ?_ rfl
  simp only [Try.ntmps7, List.size_toArray, List.length_cons, List.length_nil, Nat.reduceAdd, Nat.reduceSub, Array.replicate_succ, Array.replicate_zero, List.push_toArray, List.append_toArray, List.nil_append, List.cons_append]
  gi_wp2_with (first
    | (refine ⟨trivial, ?_⟩; gi_at_call 17; refine (items_in 2 s _).mono ?_; rintro e w' ⟨rfl, rfl⟩))
  have bS := (Boxed.new w 9 (.string s)).alloc (.cells #[.slice none 0 0] 25)
  have bL := Boxed.new (w.alloc (.cells #[.string s] 9)) 25 (.slice none 0 0)
  simp only [World.size_alloc] at bL
  have hB0 : Below w.heap.size w ((w.alloc (.cells #[.string s] 9)).alloc (.cells #[.slice none 0 0] 25)) := ((Below.refl _ w).alloc (Nat.le_refl _) _).alloc (by simp) _
  have hsz : ((w.alloc (.cells #[.string s] 9)).alloc (.cells #[.slice none 0 0] 25)).heap.size = w.heap.size + 2 := by simp
  obtain ⟨W0, hW0⟩ : ∃ W0, (w.alloc (.cells #[.string s] 9)).alloc (.cells #[.slice none 0 0] 25) = W0 := ⟨_, rfl⟩
  rw [hW0] at bS bL hB0 hsz ⊢
  clear hW0
  refine wpIn_rangeFunc_ownH rfl h1 (gf := 23) (lb := #[.pointer (some ⟨w.heap.size, 0, none⟩)]) rfl trivial (enters_of Try.func23 (by kernel_rfl) rfl)
    (items_stops 2 (by omega) w.heap.size s (by omega) W0 bS.cell) KpJ.trans (KpJ.putObj (by omega)) (Below.refl _ _) (fun _ => rfl)
    (fun pre W => (∃ v, Boxed W (w.heap.size + 1) 25 v ∧ W.ownsRow (w.heap.size + 1) 29 4 v pre.length (cellsI pre) ∧ (v = .slice none 0 0 ↔ pre = [])) ∧ Below w.heap.size w W)
    (fun _ _ _ => False)
    (OwnFrom.and (Own.from (holdsRow_own (w.heap.size + 1) (w.heap.size + 1) 25 29 4 (fun pre : List It => pre.length) (fun pre => cellsI pre) (fun pre v => v = .slice none 0 0 ↔ pre = [])) _) (ownFrom_below (Nat.le_refl _) (by omega)))
    (fun _ _ _ _ _ hs _ _ => hs)
    ⟨⟨_, bL, World.ownsRow_nil _ _ _ _, by simp⟩, hB0⟩
    (fun x a' W => ∃ Bx, w.heap.size + 1 < Bx ∧ W.heap[Bx]? = some (.cells (cellI x).toArray 29 (0, 0)) ∧ a' = { tmps := #[.string s, undef, .slice none 0 0, .bool false, .func (.func 23) #[] #[.pointer (some ⟨w.heap.size, 0, none⟩)], .pointer (some ⟨w.heap.size + 1, 0, none⟩), .pointer (some ⟨Bx, 0, none⟩), .string s, .func (.func 23) #[] #[.pointer (some ⟨w.heap.size, 0, none⟩)], .func (.func 23) #[] #[.pointer (some ⟨w.heap.size, 0, none⟩)], .bool false, .func (.func 23) #[] #[.pointer (some ⟨w.heap.size, 0, none⟩)], itv x, undef, undef, undef, undef, undef], defers := [] })
    (fun x a' _ X Y row hs hg hr => by
      obtain ⟨Bx, h1, h2, h3⟩ := hs
      exact ⟨Bx, h1, (hg.block Bx (Array.getElem?_eq_some_iff.1 h2).1 (fun e => by obtain ⟨_, o, ho, hc⟩ := hr Bx e.symm; rw [h2] at ho; cases ho; cases hc)).trans h2, h3⟩)
    ?assign ?body ?done ?stop
  case assign =>
    rintro l pre x W K ⟨⟨v, hv, hrow, hnil⟩, hB⟩ hK
    unfold itv
    gi_wp2
    exact hK _ _ ((KeepsOthers.alloc _ _).from _) ((KpI.of_below (n₀ := w.heap.size + 1) ((Below.refl _ W).alloc (Nat.le_refl _) _) (Nat.le_of_lt hv.lt)).toJ (by omega)) ⟨⟨v, hv.alloc _, hrow.alloc _, hnil⟩, hB.alloc hB.size _⟩ ⟨W.heap.size, hv.lt, World.alloc_heap_new W _, rfl⟩
  case body =>
    rintro l pre x a' W hl ⟨r, hr⟩ ⟨⟨v, hv, hrow, hnil⟩, hB⟩ ⟨Bx, hBx, hX, rfl⟩ hlt
    have hc := hv.cell
    obtain ⟨hx0, hx1, hx2, hx3⟩ := cells_it hX
    have hBW : w.heap.size + 1 < W.heap.size := hv.lt
    obtain ⟨v', w1, hr1, ho1, ht1⟩ := run_own_it 25 29 i0 _ Try.underlying25 hi hz0 hz1 hz2 rfl (W.alloc (.cells (cellI x).toArray 29)) (w.heap.size + 1) v pre x W.heap.size 1 ⟨hrow.alloc _, hnil⟩ (World.alloc_heap_new W _) (by simp; omega) (by omega)
    obtain ⟨hv1, hv2, hk2, hp2⟩ := it_appended v' hv (by decide) (Nat.le_refl _) ht1
    have ho2 := ho1.1.kept (grownBy_setCell' w1 (w.heap.size + 1) v') (.inr (hv1.not_row (by decide) ho1.1).symm)
    have hni := ho1.2
    have hl1 : (pre ++ [x]).length = pre.length + 1 := by simp
    have ho3 := ho1.1
    rw [hl1] at ho3
    obtain ⟨g', cap', rfl⟩ := ownsRow_succ ho3
    have hc1 := hv1.cell
    have hf1 := hv1.frozen
    unfold cellI at hr1
    clear ho1 ht1 ho3 hl1 hX
    gi_wp2_with (gi_at_builtin; refine wpListIn_append_run rfl (.tmp 13) (.tmp 15) 25 25 rfl _ _ rfl rfl _ w1 hr1 ?_)
    exact ⟨hk2.from _, hp2.toJ (by omega), ⟨⟨_, hv2, ho2, hni⟩, hB.trans (hp2.1.mono (by omega))⟩⟩
  case done =>
    rintro D ys W hD rfl ⟨⟨v, hv, hrow, hnil⟩, hB⟩ hK
    have hc := hv.cell
    gi_wp2
    refine ⟨by simp, .inl ⟨_, _, rfl, run_takeDeferred hK, ?_⟩⟩
    exact ⟨.tuple #[v, .bool true], by simp [results, Try.results7, go_sem], v, rfl, ⟨ownsRow_le (ownsRow_putObj hrow _ hK rfl) (Nat.le_succ _), hnil⟩, hB.trans (belowK_b (w := w) (Nat.le_refl _) W D _ _ (by omega) hK rfl rfl)⟩
  case stop =>
    rintro D c pre W _ _ h _
    exact h.elim
end Go.Proofs.Ythlcdaopldnocab
