import Derived.Test.YtjbdhakogbolkaaDoorJ16
import Derived.Test.YtjbdhakogbolkaaDoorJ10
import Derived.Test.YtjbdhakogbolkaaDoorJ9
import Derived.Test.YtjbdhakogbolkaaDoorJ4
import Derived.Test.YtjbdhakogbolkaaDoorJ2
import Derived.Laws.StructEq
section
/- bpe's row: left: its contract. -/
namespace Go.Proofs.YtjbdhakogbolkaaDoor
open Go.RowKit Go.Shelf Go.Lib
open Go.Joins Go.Sort
attribute [local go_sem] Oper.semAt_some
set_option linter.unusedVariables false
set_option linter.unusedSimpArgs false
set_option maxRecDepth 100000
theorem wpListIn_append_run {F : Fence} {m : Nat} {P : Program} {w : World} {ops : Array Oper} {rest : List Oper} {o : Oper} {a : Act} {Q : Exit → Act → World → Prop} (hgd : o.guard = none) (s x : Operand) (t tx : TypeId)
    (ho : o.op = .call { callee := .builtin .append, args := #[s, x], argTypes := #[t, tx] }) (v y : Value) (hs : a.eval s = v) (hx : a.eval x = y) (v' : Value) (w' : World)
    (hr : (Builtin.append_ #[t, tx] o.type #[v, y]).run P w = .ok v' w') (h : wpListIn F m P ops Q rest (a.put o.dst v') w') : wpListIn F m P ops Q (o :: rest) a w := by
  refine wpListIn_plain hgd fun K hK' => ?_
  unfold Oper.wpIn
  refine ⟨?_, ?_⟩
  · simp [Oper.about, ho, resolve, Target.leads, Sem.run_pure]
  · rw [Oper.semAt_plain F _ _ (by rw [ho]; intro c hc'; cases hc')]
    simp [execOp, ho, resolve, invoke, builtin, hs, hx, hr, Result.andThen]
    exact hK' _ _ h
theorem run_makeZ (c : Nat) (hc : c ≤ 1048577) : ∃ arr : Array Value, arr.size = c ∧ ∀ u : World, (Instr.makeSlice 34 (.int .i64 0) (.int .i64 (c : Nat))).run Tryd.prog u = .ok (.slice (some ⟨u.heap.size, 0, none⟩) 0 c) (u.alloc (.cells arr 3)) := by
  obtain ⟨i0, hi, hz0, hz1, hz2⟩ := HQ.info_parts infoN
  refine ⟨madeCells (Value.int .i64 0).cells (c * 1), by rw [size_madeCells]; omega, fun u => ?_⟩
  have h := run_make (P := Tryd.prog) u 34 3 i0 _ Tryd.underlying34 hi hz0 .i64 .i64 (0 : Int) (c : Int) (by omega) (by omega) (by rw [hz2]; omega) (by omega)
  rw [hz1] at h
  have e : ((c : Int)).toNat = c := by omega
  rw [e] at h
  exact h
/-- An int more. -/
theorem run_pushN (W : World) (base : Nat) (v : Value) (L : List Int) (x : Int) (b : Nat) (hown : RowN W base v L) (hx : W.heap[b]? = some (.cells #[.int .i64 x] 3 (0, 0))) (hb : base ≤ W.heap.size) (hl : L.length + 1 ≤ 2199023255552) :
    ∃ v' w', (Builtin.append_ #[34, 34] 34 #[v, .slice (some ⟨b, 0, none⟩) 1 1]).run Tryd.prog W = .ok v' w' ∧ RowN w' base v' (L ++ [x]) ∧ W.grownBy w' v.ownBlock ∧ Moved v v' W.heap.size := by
  obtain ⟨i0, hi0, hz0, hz1, hz2⟩ := HQ.info_parts infoN
  exact run_own_g 34 3 i0 _ 1 8 encN (fun _ => rfl) (by omega) (fun x v hv => by unfold encN at hv; simp at hv; subst hv; rfl) Tryd.underlying34 hi0 hz0 hz1 hz2 rfl W base v L x b 1 hown hx hb (by omega) (by omega)
theorem RowN.kept {w w' : World} {base : Nat} {v : Value} {l : List Int} (h : RowN w base v l) (hb : ∀ k o, base ≤ k → w.heap[k]? = some o → (∃ cs, o = .cells cs 3 (0, 0)) → w'.heap[k]? = some o) : RowN w' base v l :=
  ⟨h.1, by
    rcases h.2 with h0 | ⟨b, cap, cur, e, hbb, hh, rr⟩
    · exact .inl h0
    · exact .inr ⟨b, cap, cur, e, hbb, hb b _ hbb hh ⟨_, rfl⟩, rr⟩⟩
theorem keepsOthers_below_s {W W' : World} (h : Below W.heap.size W W') : KeepsOthers W W' := ⟨h.size, fun k _ hk _ => (h.block k (Array.getElem?_eq_some_iff.1 hk).1).trans hk⟩
theorem boxed_below {W W' : World} {B B' : Nat} {t : TypeId} {v : Value} (h : Boxed W B t v) (hb : Below B' W W') (hB : B < B') : Boxed W' B t v := (hb.block B hB).trans h
theorem boxed_below_s {W W' : World} {B : Nat} {t : TypeId} {v : Value} (h : Boxed W B t v) (hb : Below W.heap.size W W') : Boxed W' B t v := (hb.block B h.lt).trans h
/-- The activation in which the body of a round begins. -/
def actL (a : Act) (r : Nat) : Act := { tmps := (a.tmps.setIfInBounds 16 (.int .i64 (r : Nat))).setIfInBounds 4 (.int .i64 (r : Nat)), defers := [] }
set_option maxHeartbeats 4000000 in
theorem left_any (base r mg ib cg cb hg : Nat) (ia : Option Addr) (ic n : Nat) (hv : Value) (inn : Nat → Bool) (ids : Nat → Int) (H : List HQ.El) (w : World)
    (hR : RowAt w base r mg ib cg cb hg ia ic n hv inn ids (CH.cntG inn n : Nat) H) :
    Calls Tryd.prog 50 #[.pointer (some ⟨r, 0, none⟩)] w fun e w' => ∃ v, e = .returned v ∧ RowN w' w.heap.size v (vwJ inn n ids) ∧ v.ownBlock ≠ none ∧ Below w.heap.size w w' := by
  refine (callsIn_wide (n := 3)).1 ?_
  have hn := hR.ch.le
  obtain ⟨cnt, hcnt⟩ : ∃ cnt, cnt = CH.cntG inn n := ⟨_, rfl⟩
  have hcl := cnt_le inn n
  rw [← hcnt] at hcl
  obtain ⟨arr, ha, hmk⟩ := run_makeZ cnt (by omega)
  have hlen := CH.all_cnt inn n
  rw [← hcnt] at hlen
  obtain ⟨w1, hw1⟩ : ∃ w1, w1 = w.alloc (.cells #[.pointer (some ⟨r, 0, none⟩)] 76) := ⟨_, rfl⟩
  have hb1 : Below w.heap.size w w1 := by rw [hw1]; exact (Below.refl _ w).alloc (Nat.le_refl _) _
  have hR1 := hR.below hb1
  have k2 := cell_of_block hR1.own 2
  have HL := CH.len_any cg cb n cnt w1 (by rw [hcnt]; exact hR1.ch.own)
  have hbx1 : Boxed w1 w.heap.size 76 (.pointer (some ⟨r, 0, none⟩)) := by rw [hw1]; exact Boxed.new w _ _
  have hs1 : w1.heap.size = w.heap.size + 1 := by rw [hw1]; simp
  have kr := hbx1.cell
  simp only [List.getElem?_toArray, List.getElem?_cons_zero, List.getElem?_cons_succ] at k2
  refine callsIn_of_wp_marks Tryd.func50 rfl trivial ?_ rfl
  simp only [Tryd.ntmps50, List.size_toArray, List.length_cons, List.length_nil, Nat.reduceAdd, Nat.reduceSub, Array.replicate_succ, Array.replicate_zero, List.push_toArray, List.append_toArray, List.nil_append, List.cons_append]
  rw [hw1] at k2 kr
  gi_wp2_with fail
  rw [← hw1]
  refine ⟨trivial, (callsIn_wide.2 HL).mono ?_⟩
  rintro e w2 ⟨rfl, he⟩
  obtain rfl := he.symm
  clear HL
  have HCN : Hid (cnt = CH.cntG inn n) := hcnt
  clear hcnt kr k2 hw1
  obtain ⟨w3, hw3⟩ : ∃ w3, w3 = (w1.alloc (.cells arr 3)).alloc (.cells #[.slice (some ⟨w.heap.size + 1, 0, none⟩) 0 cnt] 34) := ⟨_, rfl⟩
  have hb3 : Below w1.heap.size w1 w3 := by rw [hw3]; exact ((Below.refl _ w1).alloc (Nat.le_refl _) _).alloc (by simp) _
  have hR3 := hR1.below hb3
  have hs3 : w3.heap.size = w.heap.size + 3 := by rw [hw3]; simp; omega
  have hbx3 := boxed_below_s hbx1 hb3
  have hl3 : Boxed w3 (w.heap.size + 2) 34 (.slice (some ⟨w.heap.size + 1, 0, none⟩) 0 cnt) := by
    have := Boxed.new (w1.alloc (.cells arr 3)) 34 (.slice (some ⟨w.heap.size + 1, 0, none⟩) 0 cnt)
    rw [World.size_alloc, hs1] at this
    rw [hw3]
    exact this
  have hN3 : RowN w3 (w.heap.size + 1) (.slice (some ⟨w.heap.size + 1, 0, none⟩) 0 cnt) [] := by
    refine ⟨rfl, .inr ⟨w.heap.size + 1, cnt, arr, rfl, Nat.le_refl _, ?_, Nat.zero_le _, by simp [maxLen]; omega, by omega, by simp⟩⟩
    have h1 : (w1.alloc (.cells arr 3)).heap[w1.heap.size]? = some (.cells arr 3 (0, 0)) := heap_alloc_new w1 _
    rw [hw3, Below.heap_alloc _ _ _ (by simp; omega), ← hs1]
    exact h1
  have hB3 := hb1.trans (hb3.mono (by omega))
  have hwl : w1.heap.size = w.heap.size + 1 := hs1
  have k0 := hbx3.cell
  have k2 := cell_of_block hR3.own 2
  simp only [List.getElem?_toArray, List.getElem?_cons_zero, List.getElem?_cons_succ] at k2
  rw [hw3] at k0 k2
  clear hb1 hb3 hR1 hbx1 hwl ha
  gi_wp2_with fail
  rw [← hw3]
  obtain ⟨z, hz⟩ : ∃ z, z = w.heap.size := ⟨_, rfl⟩
  have HZ : Hid (z = w.heap.size) := hz
  rw [← hz] at hs3 hbx3 hl3 hN3 ⊢
  clear hw3 hmk hs1 k0 k2 hz
  refine ⟨trivial, (CH.all_in _ cg w3).mono ?_⟩
  rintro e w4 ⟨rfl, hw4⟩
  have hb4 : Below w3.heap.size w3 w4 := by rw [hw4]; exact (Below.refl _ w3).alloc (Nat.le_refl _) _
  have hc4 : w4.heap[w3.heap.size]? = some (.cells #[.pointer (some ⟨cg, 0, none⟩)] 112 (0, 0)) := by rw [hw4]; exact heap_alloc_new w3 _
  rw [hs3] at hc4 ⊢
  have hs4 : w4.heap.size = z + 4 := by rw [hw4]; simp; omega
  have hR4 := hR3.below hb4
  have hl4 := boxed_below_s hl3 hb4
  have hx4 := boxed_below_s hbx3 hb4
  have hN4 := hN3.below hb4
  have hB4 := hB3.trans (hb4.mono (by have := HZ.out; omega))
  clear hw4
  gi_wp2_with fail
  have hG := CH.all_G 2 (by omega) (z + 3) cg cb n inn _ w4 hc4 hR4.ch
  have hrl := hR.own.lt
  have hcgl := hR.chl
  refine wpIn_rangeFunc_G1 rfl (by omega) (gf := 87) (lb := #[.pointer (some ⟨z + 3, 0, none⟩)]) rfl trivial (enters_of Tryd.func87 (by kernel_rfl) rfl) hG
    (fun q A B k o _ hrl hk _ ho _ => (hrl.block k (Array.getElem?_eq_some_iff.1 ho).1).trans ho)
    (fun xs A o o' h _ _ => h) (fun h k => h.trans k) (fun W o o' h ho hw => CH.KpC.putObj (w := w4) (by omega) (by have := HZ.out; omega) (by have := HZ.out; omega) W _ o o' (by omega) h ho hw) (Below.refl _ _) (fun _ => rfl)
    (fun q pre W => (∃ v, (Boxed W (z + 2) 34 v ∧ v.ownBlock ≠ none) ∧ RowN W (z + 1) v (pre.map ids)) ∧ Below (z + 1) w4 W ∧ W.heap[z + 3]? = w4.heap[z + 3]?)
    (fun c q pre W => False)
    ?own1 ?own2 ?own3 ?own4 ?start actL ?assign ?body ?done ?stop
  case own1 =>
    intro q pre W W' row ⟨⟨v, ⟨h1, hnb⟩, h2⟩, h3, h9⟩ hg hr
    refine ⟨⟨v, ⟨h1.kept hg (fun e => ?_), hnb⟩, World.ownsRow.kept h2 hg ?_⟩, h3.grown hg (by have := h3.size; omega) (fun k e => by have := (hr k e).1; omega), (hg.block _ (by have := h3.size; omega) (fun e => by have := (hr _ e.symm).1; omega)).trans h9⟩
    · have := (hr _ e.symm).1
      omega
    · by_cases hv : v.ownBlock = none
      · exact .inl hv
      · right
        intro e
        rcases h2.2 with ⟨rfl, _⟩ | ⟨b, cap, cur, rfl, hb, hh, rr⟩
        · exact hv rfl
        · obtain ⟨_, o, ho, hc⟩ := hr b e.symm
          rw [hh] at ho
          cases ho
          cases hc
  case own2 =>
    intro c q pre W W' row h _ _
    exact h
  case own3 =>
    intro q pre A B ⟨⟨v, ⟨h1, hnb⟩, h2⟩, h3, h9⟩ hAB
    exact ⟨⟨v, ⟨boxed_below_s h1 hAB, hnb⟩, h2.below hAB⟩, h3.trans (hAB.mono (by have := h3.size; omega)), (hAB.block _ (by have := h3.size; omega)).trans h9⟩
  case own4 =>
    intro c q pre A B h _
    exact h
  case start => exact fun q _ => ⟨⟨_, ⟨hl4, by simp [Value.ownBlock]⟩, hN4⟩, Below.refl _ _, rfl⟩
  case assign =>
    rintro q pre r W K hI _ _ hK
    gi_wp2
    exact hK _ _ ((KeepsOthers.refl W).from _) (CH.KpC.refl _ _ _ W) hI rfl
  case body =>
    rintro q pre x W ⟨rr, hrr⟩ hq1 hq2 ⟨⟨v, ⟨h1, hnb⟩, h2⟩, h3, h9⟩ hok
    simp only [actL, List.setIfInBounds_toArray, List.set_cons_succ, List.set_cons_zero]
    obtain ⟨hx1, hx2, hx3⟩ := CH.at_all (inn := inn) (n := n) (p := pre.length) (k := x) (by
      obtain ⟨t, ht⟩ := hok
      rw [← ht, List.append_assoc, List.getElem?_append_right (Nat.le_refl _), Nat.sub_self]
      rfl)
    have hzw : w.heap.size = z := HZ.out.symm
    have hW4 : Below w.heap.size w4 W := h3.mono (by omega)
    have hRW := (hW4.block r (by omega)).trans hR4.own
    have hxW := boxed_below hx4 h3 (by omega)
    have hne0 : ¬ n = 0 := by omega
    obtain ⟨hia, hidW, hil⟩ : ia = some ⟨ib, 0, none⟩ ∧ IdAt W ib n ids ∧ ib < w.heap.size := by
      rcases hR.ids with h0 | ⟨g1, g2, -⟩
      · exact absurd h0 hne0
      · exact ⟨g1, (g2.below hB4).kept (hW4.block ib g2.lt), g2.lt⟩
    subst hia
    have r0 := hxW.cell
    have r1 := cell_of_block hRW 1
    have r2 := hidW.at' hx1
    have r3 := h1.cell
    simp only [List.getElem?_toArray, List.getElem?_cons_zero, List.getElem?_cons_succ] at r1
    have bi : 0 ≤ (x : Int) ∧ (x : Int) < (n : Int) := by omega
    have hlW := h1.lt
    have hsW := h3.size
    have hk0 : ∀ W', Below W.heap.size W W' → W'.cell? ⟨z + 2, 0, none⟩ = some v ∧ W'.cell? ⟨z, 0, none⟩ = some (.pointer (some ⟨r, 0, none⟩)) ∧ W'.cell? ⟨r, 1, none⟩ = some (.slice (some ⟨ib, 0, none⟩) n ic) ∧ W'.cell? ⟨ib, x, none⟩ = some (.int .i64 (ids x)) := fun W' hb =>
      ⟨(hb.cell (World.block_lt_of_cell? W _ r3)).trans r3, (hb.cell (World.block_lt_of_cell? W _ r0)).trans r0, (hb.cell (World.block_lt_of_cell? W _ r1)).trans r1, (hb.cell (World.block_lt_of_cell? W _ r2)).trans r2⟩
    have hrb : r ≠ z + 2 := by omega
    have hib2 : ib ≠ z + 2 := by omega
    clear hzw hRW hW4 hxW hidW
    obtain ⟨W6, hW6⟩ : ∃ W6, W6 = W.drew.alloc (.cells #[.int .i64 (ids x)] 3) := ⟨_, rfl⟩
    have hb7 : Below W.heap.size W W6 := by rw [hW6]; exact ((Below.refl W.heap.size W).drew).alloc (Nat.le_refl _) _
    have hp6 : W6.heap[W.heap.size]? = some (.cells #[.int .i64 (ids x)] 3 (0, 0)) := by rw [hW6]; exact heap_alloc_new W.drew _
    have hs7 := hb7.size
    have hpl : pre.length ≤ n := by
      have h4 := CH.all_len inn n 0
      obtain ⟨t, ht⟩ := hok
      have h5 := congrArg List.length ht
      simp at h5
      omega
    obtain ⟨v', W8, hrun, hN8, hg8, hm8⟩ := run_pushN W6 (z + 1) v (pre.map ids) (ids x) W.heap.size (h2.below hb7) hp6 (by omega) (by simp; omega)
    obtain ⟨L8, hL8⟩ : ∃ L8, L8 = (pre.map ids ++ [ids x]).length := ⟨_, rfl⟩
    obtain ⟨b8, q8, rfl⟩ : ∃ b8 q8, v' = .slice (some ⟨b8, 0, none⟩) L8 q8 := by
      rcases ownsRow_forms hN8 with ⟨_, h0⟩ | ⟨b, q, e⟩
      · simp at h0
      · exact ⟨b, q, by rw [hL8]; exact e⟩
    clear hL8
    have hko8 : KeepsOthers W W8 := (keepsOthers_below_s hb7).trans (KeepsOthers.of_grownBy hg8 (fun j o ej hj => by
      rcases (h2.below hb7).2 with ⟨e0, _⟩ | ⟨b0, cap0, cur0, e0, _, hh0, _⟩
      · rw [e0] at ej; cases ej
      · rw [e0] at ej
        cases ej
        rw [hh0] at hj
        cases hj
        rfl))
    have hvn : ∀ k, v.ownBlock = some k → z + 1 ≤ k ∧ ∃ cs, W.heap[k]? = some (.cells cs 3 (0, 0)) := fun k hk => by
      rcases h2.2 with ⟨e0, _⟩ | ⟨b0, cap0, cur0, e0, g0, hh0, _⟩
      · rw [e0] at hk; cases hk
      · rw [e0] at hk
        cases hk
        exact ⟨g0, _, hh0⟩
    have hl8 : Boxed W8 (z + 2) 34 v := (boxed_below_s h1 hb7).kept hg8 (fun e => by
      obtain ⟨_, cs, h4⟩ := hvn _ e.symm
      have h5 : W.heap[z + 2]? = _ := h1
      rw [h4] at h5
      injection h5 with h5
      injection h5 with _ h5 _
      exact absurd h5 (by decide))
    have hB8 : Below (z + 1) W W8 := (hb7.mono (by omega)).grown hg8 (by omega) (fun k hk => (hvn k hk).1)
    have hsz6 : W6.heap.size = W.heap.size + 1 := by rw [hW6]; simp
    have c3 : W8.heap[z + 3]? = W.heap[z + 3]? := by
      have h4 : W6.heap[z + 3]? = W.heap[z + 3]? := hb7.block _ (by have := hs4; omega)
      rw [← h4]
      refine hg8.block _ (by omega) (fun e => ?_)
      obtain ⟨_, cs, h5⟩ := hvn _ e.symm
      rw [h9, hc4] at h5
      injection h5 with h5
      injection h5 with _ h5 _
      exact absurd h5 (by decide)
    have kl8 := hl8.cell
    have fl8 := hl8.frozen
    have hS8 : W8.cell? ⟨z + 2, 0, none⟩ = some v ∧ W8.cell? ⟨z, 0, none⟩ = some (.pointer (some ⟨r, 0, none⟩)) ∧ W8.cell? ⟨r, 1, none⟩ = some (.slice (some ⟨ib, 0, none⟩) n ic) ∧ W8.cell? ⟨ib, x, none⟩ = some (.int .i64 (ids x)) := by
      have hzw := HZ.out
      exact ⟨kl8, (hB8.cell (p := ⟨z, 0, none⟩) (by show z < z + 1; omega)).trans r0, (hB8.cell (p := ⟨r, 1, none⟩) (by show r < z + 1; omega)).trans r1, (hB8.cell (p := ⟨ib, x, none⟩) (by show ib < z + 1; omega)).trans r2⟩
    clear hp6 hg8 hm8
    gi_wp2_with fail
    refine wpIn_region_heldtail 10 (fun w' : World => w'.cell? ⟨z + 2, 0, none⟩ = some v ∧ w'.cell? ⟨z, 0, none⟩ = some (.pointer (some ⟨r, 0, none⟩)) ∧ w'.cell? ⟨r, 1, none⟩ = some (.slice (some ⟨ib, 0, none⟩) n ic) ∧ w'.cell? ⟨ib, x, none⟩ = some (.int .i64 (ids x))) (by kernel_rfl) (by kernel_rfl) (by kernel_rfl) (fun ⟨_, _, h⟩ => h) ?_
    refine HL_take (i := 0) (v) (by kernel_rfl) rfl (by omega) (by kernel_rfl) (by kernel_rfl) (by kernel_rfl) (fun _ _ _ h => h) (.inl ⟨by kernel_rfl, fun w' hw' => by obtain ⟨q1, q2, q3, q4⟩ := hw'; go_simp⟩) ⟨r3, r0, r1, r2⟩ ?_
    simp only [Act.put, List.getElem_toArray, List.getElem_cons_zero, List.getElem_cons_succ, List.setIfInBounds_toArray, List.set_cons_zero, List.set_cons_succ]
    refine HL_take (i := 1) (.pointer (some ⟨r, 0, none⟩)) (by kernel_rfl) rfl (by omega) (by kernel_rfl) (by kernel_rfl) (by kernel_rfl) (fun _ _ _ h => h) (.inl ⟨by kernel_rfl, fun w' hw' => by obtain ⟨q1, q2, q3, q4⟩ := hw'; go_simp⟩) ⟨r3, r0, r1, r2⟩ ?_
    simp only [Act.put, List.getElem_toArray, List.getElem_cons_zero, List.getElem_cons_succ, List.setIfInBounds_toArray, List.set_cons_zero, List.set_cons_succ]
    refine HL_take (i := 2) (.pointer (some ⟨r, 0, none⟩)) (by kernel_rfl) rfl (by omega) (by kernel_rfl) (by kernel_rfl) (by kernel_rfl) (fun _ _ _ h => h) (.inl ⟨by kernel_rfl, fun w' hw' => by obtain ⟨q1, q2, q3, q4⟩ := hw'; go_simp⟩) ⟨r3, r0, r1, r2⟩ ?_
    simp only [Act.put, List.getElem_toArray, List.getElem_cons_zero, List.getElem_cons_succ, List.setIfInBounds_toArray, List.set_cons_zero, List.set_cons_succ]
    refine HL_take (i := 3) (.pointer (some ⟨r, 1, none⟩)) (by kernel_rfl) rfl (by omega) (by kernel_rfl) (by kernel_rfl) (by kernel_rfl) (fun _ _ _ h => h) (.inl ⟨by kernel_rfl, fun w' hw' => by obtain ⟨q1, q2, q3, q4⟩ := hw'; go_simp⟩) ⟨r3, r0, r1, r2⟩ ?_
    simp only [Act.put, List.getElem_toArray, List.getElem_cons_zero, List.getElem_cons_succ, List.setIfInBounds_toArray, List.set_cons_zero, List.set_cons_succ]
    refine HL_take (i := 4) (.slice (some ⟨ib, 0, none⟩) n ic) (by kernel_rfl) rfl (by omega) (by kernel_rfl) (by kernel_rfl) (by kernel_rfl) (fun _ _ _ h => h) (.inl ⟨by kernel_rfl, fun w' hw' => by obtain ⟨q1, q2, q3, q4⟩ := hw'; go_simp⟩) ⟨r3, r0, r1, r2⟩ ?_
    simp only [Act.put, List.getElem_toArray, List.getElem_cons_zero, List.getElem_cons_succ, List.setIfInBounds_toArray, List.set_cons_zero, List.set_cons_succ]
    refine HL_take (i := 5) (.int .i64 (x : Nat)) (by kernel_rfl) rfl (by omega) (by kernel_rfl) (by kernel_rfl) (by kernel_rfl) (fun _ _ _ h => h) (.inl ⟨by kernel_rfl, fun w' hw' => by obtain ⟨q1, q2, q3, q4⟩ := hw'; go_simp⟩) ⟨r3, r0, r1, r2⟩ ?_
    simp only [Act.put, List.getElem_toArray, List.getElem_cons_zero, List.getElem_cons_succ, List.setIfInBounds_toArray, List.set_cons_zero, List.set_cons_succ]
    refine HL_take (i := 6) (.pointer (some ⟨ib, x, none⟩)) (by kernel_rfl) rfl (by omega) (by kernel_rfl) (by kernel_rfl) (by kernel_rfl) (fun _ _ _ h => h) (.inl ⟨by kernel_rfl, fun w' hw' => by obtain ⟨q1, q2, q3, q4⟩ := hw'; go_simp⟩) ⟨r3, r0, r1, r2⟩ ?_
    simp only [Act.put, List.getElem_toArray, List.getElem_cons_zero, List.getElem_cons_succ, List.setIfInBounds_toArray, List.set_cons_zero, List.set_cons_succ]
    refine HL_take (i := 7) (.int .i64 (ids x)) (by kernel_rfl) rfl (by omega) (by kernel_rfl) (by kernel_rfl) (by kernel_rfl) (fun _ _ _ h => h) (.inl ⟨by kernel_rfl, fun w' hw' => by obtain ⟨q1, q2, q3, q4⟩ := hw'; go_simp⟩) ⟨r3, r0, r1, r2⟩ ?_
    simp only [Act.put, List.getElem_toArray, List.getElem_cons_zero, List.getElem_cons_succ, List.setIfInBounds_toArray, List.set_cons_zero, List.set_cons_succ]
    refine HL_one (i := 8) rfl (by omega) (by kernel_rfl) rfl ?_
    refine wp_value (v := .slice (some ⟨W.heap.size, 0, none⟩) 1 1) (w' := W6) (by rw [hW6]; go_simp) ?_
    refine ⟨hk0 _ hb7, ?_⟩
    simp only [Act.put, List.getElem_toArray, List.getElem_cons_zero, List.getElem_cons_succ, List.setIfInBounds_toArray, List.set_cons_zero, List.set_cons_succ]
    refine HL_one (i := 9) rfl (by omega) (by kernel_rfl) rfl ?_
    refine wp_append (.tmp 17) (.tmp 25) 34 34 rfl v (.slice (some ⟨W.heap.size, 0, none⟩) 1 1) rfl rfl (fun v2 w3 => v2 = .slice (some ⟨b8, 0, none⟩) L8 q8 ∧ w3 = W8) ⟨_, W8, hrun, rfl, rfl⟩ ?_
    rintro v2 w3 ⟨e1, e2⟩
    rw [e1, e2]
    clear e1 e2 v2 w3
    refine ⟨hS8, ?_⟩
    simp only [Act.put, List.getElem_toArray, List.getElem_cons_zero, List.getElem_cons_succ, List.setIfInBounds_toArray, List.set_cons_zero, List.set_cons_succ]
    refine ⟨by kernel_rfl, ?_⟩
    simp only [List.drop_succ_cons, List.drop_zero]
    clear hrun hW6 hb7 hS8 hk0 r0 r1 r2 r3
    go_wp2_with fail
    have hset : ∀ k, k ≠ z + 2 → (W8.setCell ⟨z + 2, 0, none⟩ (.slice (some ⟨b8, 0, none⟩) L8 q8)).heap[k]? = W8.heap[k]? := fun k hk => Below.heap_setCell W8 ⟨z + 2, 0, none⟩ _ k hk
    have hzw := HZ.out
    refine ⟨(hko8.trans (KeepsOthers.setCell _ _ _)).from _, ⟨?_, ?_, ?_, ?_⟩, ⟨_, ⟨hl8.set _, by simp [Value.ownBlock]⟩, ?_⟩, ?_, ?_⟩
    · have := hB8.size
      simpa using this
    · exact (hset _ (by omega)).trans c3
    · exact (hset _ (by omega)).trans (hB8.block _ (by omega))
    · exact (hset _ (by omega)).trans (hB8.block _ (by omega))
    · rw [List.map_append]
      refine hN8.kept (fun k o hk ho hc => (hset k (fun e => ?_)).trans ho)
      subst e
      obtain ⟨cs, rfl⟩ := hc
      have h5 : W8.heap[z + 2]? = _ := hl8
      rw [ho] at h5
      injection h5 with h5
      injection h5 with _ h5 _
      exact absurd h5 (by decide)
    · exact h3.trans (hB8.setCell (p := ⟨z + 2, 0, none⟩) (by show z + 1 ≤ z + 2; omega) _)
    · exact ((hset _ (by omega)).trans c3).trans h9
  case done =>
    rintro D q ys W rfl hq rfl ⟨⟨v, ⟨h1, hnb⟩, h2⟩, h3, h9⟩ hDk
    have k1 := h1.cell
    have hzw : w.heap.size = z := HZ.out.symm
    gi_wp2_with fail
    refine ⟨by simp, .inl ⟨_, _, rfl, run_takeDeferred hDk, ?_⟩⟩
    refine ⟨v, by simp [results, Tryd.results50, go_sem], v, rfl, ?_, hnb, ?_⟩
    · rw [hzw]
      refine ⟨h2.1, ?_⟩
      rcases h2.2 with h0 | ⟨b, cap, cur, e, hb, hh, rr⟩
      · exact .inl h0
      · refine .inr ⟨b, cap, cur, e, by omega, (World.putObj_heap_other (fun e2 => ?_)).trans hh, rr⟩
        rw [← e2, hh] at hDk
        cases hDk
    · exact (hB4.trans (h3.mono (by omega))).trans (belowK_b (w := w) (Nat.le_refl _) W _ _ _ (by omega) hDk rfl rfl)
  case stop =>
    rintro D q c pre W rfl hq hp h hDk
    exact h.elim
end Go.Proofs.YtjbdhakogbolkaaDoor
end
section
/- bpe's joined: its contract. -/
namespace Go.Proofs.YtjbdhakogbolkaaDoor
open Go.RowKit Go.Shelf Go.Lib
open Go.Joins Go.Sort
attribute [local go_sem] Oper.semAt_some
set_option linter.unusedVariables false
set_option linter.unusedSimpArgs false
set_option maxRecDepth 100000
theorem KpP.refl {M0 lo hi : Nat} (A : World) : KpP M0 lo hi A A := ⟨rfl, rfl, rfl, Nat.le_refl _, fun _ _ => rfl, fun _ _ _ _ h => h⟩
theorem RowAt.putObj {base hi r mg ib cg cb hg : Nat} {ia : Option Addr} {ic n : Nat} {hv : Value} {inn : Nat → Bool} {ids : Nat → Int} {cnt : Int} {H : List HQ.El} {w : World} (h : RowAt w base r mg ib cg cb hg ia ic n hv inn ids cnt H) {b : Nat} {o o' : Obj} (hb : hi ≤ b) (hh : r < hi ∧ ib < hi ∧ cg < hi ∧ cb < hi ∧ hg < hi) (ho : w.heap[b]? = some o) (hc : o.isCells = false) : RowAt (w.putObj b o') base r mg ib cg cb hg ia ic n hv inn ids cnt H :=
  h.away hb hh (fun e => by
    obtain ⟨cs, h2⟩ := h.pairs e
    rw [ho] at h2
    cases h2
    cases hc) (fun k hk => World.putObj_heap_other hk)
/-- joins: its contract, for a range over it. -/
theorem joins_G (n0 : Nat) (hn0 : 1 ≤ n0) (Bx base hi r mg ib cg cb hg lo : Nat) (ia : Option Addr) (ic n : Nat) (hv0 : Value) (s0 : StJ) (H0 : List HQ.El) (ws : List ByteArray) (ms : List Mg) (A B C : List Sp) (wM : World)
    (hMI : ∀ l r k i, mergeM ms l r = some (k, i) → W64 i) (hM : ModelAt wM lo mg ws ms A B C) (hMb : wM.heap.size ≤ base)
    (hib : base ≤ ib) (hh : r < hi ∧ ib < hi ∧ cg < hi ∧ cb < hi ∧ hg < hi) (hBx0 : base ≤ Bx ∧ Bx < hi) (hBxn : Bx ≠ ib ∧ Bx ≠ cg ∧ Bx ≠ cb ∧ Bx ≠ hg)
    (w : World) (hhi : hi ≤ w.heap.size) (hBox : w.heap[Bx]? = some (.cells #[.pointer (some ⟨r, 0, none⟩)] 76 (0, 0))) (hMw : Below wM.heap.size wM w)
    (hR : RowAt w base r mg ib cg cb hg ia ic n hv0 s0.1 s0.2 (CH.cntG s0.1 n : Nat) H0) (hI : ∀ k, k < n → W64 (s0.2 k)) (hH : HPf HQ.keyE H0 0) (hC : Cov ms n s0 H0) (hlen : H0.length + 3 * CH.cntG s0.1 n + 9 ≤ 1099511627776) :
    SeqG Fence.wide n0 Tryd.prog 56 #[.pointer (some ⟨Bx, 0, none⟩)] (fun x : HQ.El => #[HQ.valE x]) (fun _ _ => RlP base hi) (fun _ => KpP wM.heap.size base hi) (fun pre x => IsP ms n (stJ s0 pre) x) (fun xs W' => NoP ms n (stJ s0 xs) ∧ ∃ hv H, RowAt W' base r mg ib cg cb hg ia ic n hv (stJ s0 xs).1 (stJ s0 xs).2 (CH.cntG (stJ s0 xs).1 n : Nat) H) (fun _ => True) w := by
  intro l J Jx W hW hJ hJx hY h0
  refine (joins1_in n0 hn0 l Bx W.heap.size base hi r mg ib cg cb hg lo ia ic n hv0 s0 H0 ws ms A B C wM (J W.heap.size) (Jx W.heap.size) hMI hM hMb hib hh hBx0 hBxn
    (fun pre X Y h1 h2 => hJ _ _ _ _ h1 h2) (fun pre x W1 h1 h2 h3 => hY _ pre x W1 (Nat.le_refl _) h1 h2 h3) W rfl (Nat.le_trans hhi hW.size) ((hW.block Bx (Array.getElem?_eq_some_iff.1 hBox).1).trans hBox) (hMw.trans (hW.mono hMw.size)) (hR.below hW) hI hH hC hlen (h0 _ (Nat.le_refl _))).mono ?_
  rintro e W' ⟨hv, ⟨xs, h1, h2⟩ | ⟨pre, h1⟩⟩
  · exact ⟨hv, _, Nat.le_refl _, .inl ⟨xs, h1, h2⟩⟩
  · exact ⟨hv, _, Nat.le_refl _, .inr ⟨pre, trivial, h1⟩⟩
def actJ (a : Act) (x : HQ.El) : Act := { tmps := a.tmps.setIfInBounds 5 (HQ.valE x), defers := [] }
set_option maxHeartbeats 4000000 in
theorem bjoined_any (base r mg ib cg cb hg lo : Nat) (ia : Option Addr) (ic n : Nat) (hv : Value) (s0 : StJ) (H0 : List HQ.El) (ws : List ByteArray) (ms : List Mg) (A B C : List Sp) (wM w : World)
    (hMI : ∀ l r k i, mergeM ms l r = some (k, i) → W64 i) (hM : ModelAt wM lo mg ws ms A B C) (hMb : wM.heap.size ≤ base)
    (hib : base ≤ ib) (hh : r < w.heap.size ∧ ib < w.heap.size ∧ cg < w.heap.size ∧ cb < w.heap.size ∧ hg < w.heap.size) (hMw : Below wM.heap.size wM w)
    (hR : RowAt w base r mg ib cg cb hg ia ic n hv s0.1 s0.2 (CH.cntG s0.1 n : Nat) H0) (hI : ∀ k, k < n → W64 (s0.2 k)) (hH : HPf HQ.keyE H0 0) (hC : Cov ms n s0 H0) (hlen : H0.length + 3 * CH.cntG s0.1 n + 9 ≤ 1099511627776) :
    Calls Tryd.prog 29 #[.pointer (some ⟨r, 0, none⟩)] w fun e w' => ∃ v l st, e = .returned v ∧ RowN w' w.heap.size v l ∧ JR ms (vwJ s0.1 n s0.2) st l ∧ Below base w w' ∧ v.ownBlock ≠ none := by
  refine (callsIn_wide (n := 3)).1 ?_
  have hbw : base ≤ w.heap.size := by omega
  refine callsIn_of_wp_marks Tryd.func29 rfl trivial ?_ rfl
  simp only [Tryd.ntmps29, List.size_toArray, List.length_cons, List.length_nil, Nat.reduceAdd, Nat.reduceSub, Array.replicate_succ, Array.replicate_zero, List.push_toArray, List.append_toArray, List.nil_append, List.cons_append]
  gi_wp2_with fail
  refine ⟨trivial, (joins_in _ r w).mono ?_⟩
  rintro e w1 ⟨rfl, hw1⟩
  have hb1 : Below w.heap.size w w1 := by rw [hw1]; exact (Below.refl _ w).alloc (Nat.le_refl _) _
  have hs1 : w1.heap.size = w.heap.size + 1 := by rw [hw1]; simp
  have hx1 : w1.heap[w.heap.size]? = some (.cells #[.pointer (some ⟨r, 0, none⟩)] 76 (0, 0)) := by rw [hw1]; exact heap_alloc_new w _
  obtain ⟨z, hz⟩ : ∃ z, z = w.heap.size := ⟨_, rfl⟩
  have HZ : Hid (z = w.heap.size) := hz
  rw [← hz] at hs1 hx1 ⊢
  have hh1 : r < z + 1 ∧ ib < z + 1 ∧ cg < z + 1 ∧ cb < z + 1 ∧ hg < z + 1 := by omega
  have hG := joins_G 2 (by omega) z base (z + 1) r mg ib cg cb hg lo ia ic n hv s0 H0 ws ms A B C wM hMI hM hMb hib hh1 (by omega) (by omega) w1 (by omega) hx1 (hMw.trans (hb1.mono hMw.size)) (hR.below hb1) hI hH hC hlen
  clear hw1 hz
  gi_wp2_with fail
  refine wpIn_rangeFunc_G1 rfl (by omega) (gf := 56) (lb := #[.pointer (some ⟨z, 0, none⟩)]) rfl trivial (enters_of Tryd.func56 (by kernel_rfl) rfl) hG
    (fun q A B k o _ hrl hk hk2 ho hc => hrl.block k o (by omega) ho (fun ⟨_, _, e⟩ => by rw [e] at hc; cases hc))
    (fun xs A o o' h ho hc => ⟨h.1, by
      obtain ⟨hv, H, h2⟩ := h.2
      exact ⟨hv, H, h2.putObj (by omega) hh1 ho hc⟩⟩) (fun h k => h.trans k) (fun W o o' h ho _ => KpP.putObj W _ o o' h ho (by have := hMw.size; have := HZ.out; omega)) (Below.refl _ _) (fun _ => rfl)
    (fun q pre W => (∃ st, JS ms (vwJ s0.1 n s0.2) st (vwJ (stJ s0 pre).1 n (stJ s0 pre).2)) ∧ Below base w1 W)
    (fun c q pre W => False)
    ?own1 ?own2 ?own3 ?own4 ?start actJ ?assign ?body ?done ?stop
  case own1 =>
    intro q pre W W' row ⟨h1, h3⟩ hg hr
    exact ⟨h1, h3.grown hg (by have := h3.size; have := HZ.out; omega) (fun k e => by have := (hr k e).1; have := HZ.out; omega)⟩
  case own2 =>
    intro c q pre W W' row h _ _
    exact h
  case own3 =>
    intro q pre A B ⟨h1, h3⟩ hAB
    exact ⟨h1, h3.trans hAB.below⟩
  case own4 =>
    intro c q pre A B h _
    exact h
  case start => exact fun q _ => ⟨⟨[], JS.nil⟩, Below.refl _ _⟩
  case assign =>
    rintro q pre x W K hI' _ _ hK
    gi_wp2
    exact hK _ _ ((KeepsOthers.refl W).from _) (KpP.refl _) hI' (by unfold actJ; simp)
  case body =>
    rintro q pre x W ⟨rr, hrr⟩ hq1 hq2 ⟨⟨st, h1⟩, h3⟩ hok
    gi_wp2
    refine ⟨(KeepsOthers.refl W).from _, KpP.refl _, ?_, h3⟩
    obtain ⟨h5, h6⟩ := hok.isN
    rw [stJ_snoc, h6]
    exact ⟨_, JS.snoc h1 h5⟩
  case done =>
    rintro D q ys W rfl hq ⟨hN, hv', H', hRW⟩ ⟨⟨st, h1⟩, h3⟩ hDk
    have HL := left_any base r mg ib cg cb hg ia ic n hv' _ _ H' W hRW
    gi_wp2_with fail
    refine ⟨trivial, (callsIn_wide.2 HL).mono ?_⟩
    rintro e w5 ⟨v, rfl, hv5, hnb, hb5⟩
    have hDk5 := (hb5.block _ (Array.getElem?_eq_some_iff.1 hDk).1).trans hDk
    rw [hs1] at hDk5
    clear HL
    gi_wp2_with fail
    refine ⟨by simp, .inl ⟨_, _, rfl, run_takeDeferred hDk5, ?_⟩⟩
    have hzw := HZ.out
    have hs3 := h3.size
    refine ⟨v, by simp [results, Tryd.results29, go_sem], v, _, st, rfl, ?_, h1.fin hN.noN, ?_, hnb⟩
    · refine ⟨hv5.1, ?_⟩
      rcases hv5.2 with h0 | ⟨b, cap, cur, e, hb, hh, rr⟩
      · exact .inl h0
      · refine .inr ⟨b, cap, cur, e, by omega, (World.putObj_heap_other (fun e2 => ?_)).trans hh, rr⟩
        rw [← e2, hh] at hDk5
        cases hDk5
    · exact ((hb1.mono hbw).trans (h3.trans (hb5.mono (by omega)))).trans (belowK_b (w := w) hbw w5 _ _ _ (by omega) hDk5 rfl rfl)
  case stop =>
    rintro D q c pre W rfl hq hp h hDk
    exact h.elim
end Go.Proofs.YtjbdhakogbolkaaDoor
end
section
/- tesserabook.House: its contract. -/
namespace Go.Proofs.YtjbdhakogbolkaaDoor
open Go.RowKit Go.Sort Go.Joins
def houA : List Sp := [⟨97, 122⟩, ⟨233, 233⟩]
def houB : List Sp := [⟨48, 57⟩]
def houC : List Sp := [⟨9, 10⟩, ⟨32, 32⟩]
def houW : List ByteArray := [⟨#[97, 98]⟩, ⟨#[32, 97]⟩, ⟨#[116, 104]⟩, ⟨#[116, 104, 101]⟩, ⟨#[104, 101]⟩, ⟨#[195, 169]⟩]
def houM : List Mg := [⟨97, 98, 256⟩, ⟨32, 97, 257⟩, ⟨116, 104, 258⟩, ⟨258, 101, 259⟩, ⟨104, 101, 260⟩, ⟨195, 169, 261⟩]
theorem WSP.new (w : World) (l : List ByteArray) (t : TypeId) : WSP (w.alloc (.cells (cellsW l).toArray t)) (some ⟨w.heap.size, 0, none⟩) l := by
  refine .inr ⟨w.heap.size, 0, rfl, fun i x hx => ?_⟩
  rw [cell_of_block (heap_alloc_new _ _), Nat.zero_add]
  simpa using cellsW_get hx
theorem WSP.at_new {X : World} {g : Nat} {l : List ByteArray} {t : TypeId} (hs : X.heap.size = g) : WSP (X.alloc (.cells (cellsW l).toArray t)) (some ⟨g, 0, none⟩) l := hs ▸ WSP.new X l t
theorem MSP.new (w : World) (l : List Mg) (t : TypeId) : MSP (w.alloc (.cells (cellsM l).toArray t)) (some ⟨w.heap.size, 0, none⟩) l := by
  refine .inr ⟨w.heap.size, 0, rfl, fun i x hx => ?_⟩
  obtain ⟨h0, h1, h2⟩ := cellsM_get l i x hx
  unfold MgAt
  rw [cell_of_block (heap_alloc_new _ _), cell_of_block (heap_alloc_new _ _), cell_of_block (heap_alloc_new _ _), Nat.zero_add]
  exact ⟨by simpa using h0, by simpa using h1, by simpa using h2⟩
theorem MSP.at_new {X : World} {g : Nat} {l : List Mg} {t : TypeId} (hs : X.heap.size = g) : MSP (X.alloc (.cells (cellsM l).toArray t)) (some ⟨g, 0, none⟩) l := hs ▸ MSP.new X l t
set_option maxRecDepth 100000 in
set_option maxHeartbeats 2000000 in
theorem house_any (w : World) : Calls Tryd.prog 38 #[] w fun e w' => ∃ s0 s1 a b c, e = .returned (.agg #[.slice s0 6 6, .slice s1 6 6, .slice a 2 2, .slice b 1 1, .slice c 2 2]) ∧ WSP w' s0 houW ∧ MSP w' s1 houM ∧ SPS w' a houA ∧ SPS w' b houB ∧ SPS w' c houC ∧ Below w.heap.size w w' := by
  go_enter Tryd.func38, Tryd.ntmps38
  go_wp2_with fail
  generalize hV : ((w.alloc _).alloc _).alloc _ = V
  have hVs : V.heap.size = w.heap.size + 1 + 1 + 1 := by rw [← hV]; simp
  have hVb : Below w.heap.size w V := by rw [← hV]; exact (((Below.refl _ w).alloc (Nat.le_refl _) _).alloc (by simp) _).alloc (by simp; omega) _
  have hx := heap_alloc_new w (.cells #[.slice (some ⟨w.heap.size + 1, 0, none⟩) 6 6, .slice (some ⟨w.heap.size + 1 + 1, 0, none⟩) 6 6, .slice (some ⟨w.heap.size + 1 + 1 + 1, 0, none⟩) 2 2, .slice (some ⟨w.heap.size + 1 + 1 + 1 + 1, 0, none⟩) 1 1, .slice (some ⟨w.heap.size + 1 + 1 + 1 + 1 + 1, 0, none⟩) 2 2] 30)
  have hxV : V.heap[w.heap.size]? = some (.cells #[.slice (some ⟨w.heap.size + 1, 0, none⟩) 6 6, .slice (some ⟨w.heap.size + 1 + 1, 0, none⟩) 6 6, .slice (some ⟨w.heap.size + 1 + 1 + 1, 0, none⟩) 2 2, .slice (some ⟨w.heap.size + 1 + 1 + 1 + 1, 0, none⟩) 1 1, .slice (some ⟨w.heap.size + 1 + 1 + 1 + 1 + 1, 0, none⟩) 2 2] 30 (0, 0)) := by
    rw [← hV]
    exact ((((Below.refl _ _).alloc (Nat.le_refl _) _).alloc (by simp) _).block w.heap.size (by simp)).trans hx
  have eW : WSP V (some ⟨w.heap.size + 1, 0, none⟩) houW := by
    rw [← hV]
    exact (WSP.at_new (l := houW) (by simp)).below (box_below _ _)
  have eM : MSP V (some ⟨w.heap.size + 1 + 1, 0, none⟩) houM := by
    rw [← hV]
    exact MSP.at_new (l := houM) (by simp)
  clear hx hV
  have eA := SPS.new V houA 27
  rw [hVs] at eA
  obtain ⟨V1, hV1⟩ : ∃ V1, V1 = V.alloc (.cells #[.int .i32 97, .int .i32 122, .int .i32 233, .int .i32 233] 27) := ⟨_, rfl⟩
  have eA : SPS V1 (some ⟨w.heap.size + 1 + 1 + 1, 0, none⟩) houA := by rw [hV1]; exact eA
  have h1s : V1.heap.size = w.heap.size + 1 + 1 + 1 + 1 := by rw [hV1]; simp; omega
  have h1b : Below V.heap.size V V1 := by rw [hV1]; exact (Below.refl _ _).alloc (Nat.le_refl _) _
  have eB := SPS.new V1 houB 27
  rw [h1s] at eB
  obtain ⟨V2, hV2⟩ : ∃ V2, V2 = V1.alloc (.cells #[.int .i32 48, .int .i32 57] 27) := ⟨_, rfl⟩
  have eB : SPS V2 (some ⟨w.heap.size + 1 + 1 + 1 + 1, 0, none⟩) houB := by rw [hV2]; exact eB
  have h2s : V2.heap.size = w.heap.size + 1 + 1 + 1 + 1 + 1 := by rw [hV2]; simp; omega
  have h2b : Below V1.heap.size V1 V2 := by rw [hV2]; exact (Below.refl _ _).alloc (Nat.le_refl _) _
  have eC := SPS.new V2 houC 27
  rw [h2s] at eC
  obtain ⟨V3, hV3⟩ : ∃ V3, V3 = V2.alloc (.cells #[.int .i32 9, .int .i32 10, .int .i32 32, .int .i32 32] 27) := ⟨_, rfl⟩
  have eC : SPS V3 (some ⟨w.heap.size + 1 + 1 + 1 + 1 + 1, 0, none⟩) houC := by rw [hV3]; exact eC
  have h3b : Below V2.heap.size V2 V3 := by rw [hV3]; exact (Below.refl _ _).alloc (Nat.le_refl _) _
  rw [← hV1, ← hV2, ← hV3]
  clear hV1 hV2 hV3
  have hB := hVb.trans ((h1b.mono hVb.size).trans ((h2b.trans (h3b.mono h2b.size)).mono (by omega)))
  have hxF := (((h1b.trans ((h2b.trans (h3b.mono h2b.size)).mono h1b.size)).block _ (by omega)).trans hxV)
  have y0 := cell_of_block hxF (i := 0)
  have y1 := cell_of_block hxF (i := 1)
  have y2 := cell_of_block hxF (i := 2)
  have y3 := cell_of_block hxF (i := 3)
  have y4 := cell_of_block hxF (i := 4)
  refine bodyPost_ret (v := .agg #[.slice (some ⟨w.heap.size + 1, 0, none⟩) 6 6, .slice (some ⟨w.heap.size + 1 + 1, 0, none⟩) 6 6, .slice (some ⟨w.heap.size + 1 + 1 + 1, 0, none⟩) 2 2, .slice (some ⟨w.heap.size + 1 + 1 + 1 + 1, 0, none⟩) 1 1, .slice (some ⟨w.heap.size + 1 + 1 + 1 + 1 + 1, 0, none⟩) 2 2]) (by simp [results, Tryd.results38, go_sem, y0, y1, y2, y3, y4]) rfl ⟨_, _, _, _, _, rfl, ((eW.below h1b).below h2b).below h3b, ((eM.below h1b).below h2b).below h3b, (eA.below h2b).below h3b, eB.below h3b, eC, hB⟩
end Go.Proofs.YtjbdhakogbolkaaDoor
end
section
/- tesserabook.Roomy, Same, Intact of words: their contracts. -/
namespace Go.Proofs.YtjbdhakogbolkaaDoor
open Go.RowKit Go.Sort Go.Joins
/-- A block of words' cells. -/
def OwnPw (w : World) (g : Nat) (L : List Value) : Prop := w.heap[g]? = some (.cells L.toArray 9 (0, 0))
theorem OwnPw.below {w w' : World} {g : Nat} {L : List Value} {B : Nat} (h : OwnPw w g L) (hb : Below B w w') (hg : g < B) : OwnPw w' g L := by
  unfold OwnPw; rw [hb.block g hg]; exact h
theorem OwnPw.lt {w : World} {g : Nat} {L : List Value} (h : OwnPw w g L) : g < w.heap.size := (Array.getElem?_eq_some_iff.1 h).1
theorem OwnPw.cell {w : World} {g : Nat} {L : List Value} (h : OwnPw w g L) (j : Nat) : w.cell? ⟨g, j, none⟩ = L[j]? := by
  rw [cell_of_block h]; simp
theorem OwnPw.free {w : World} {g : Nat} {L : List Value} (h : OwnPw w g L) (j : Nat) : w.frozen? ⟨g, j, none⟩ = false := unfrozen_of_block h j
theorem OwnPw.set {w : World} {g : Nat} {L : List Value} (h : OwnPw w g L) (j : Nat) (v : Value) : OwnPw (w.setCell ⟨g, j, none⟩ v) g (L.set j v) := by
  have := block_setCell h (i := j) v
  unfold OwnPw; rw [this]; simp
theorem WSP.of_block {w : World} {g : Nat} {l r : List ByteArray} {t : TypeId} {fr : Nat × Nat} (h : w.heap[g]? = some (.cells (cellsW (l ++ r)).toArray t fr)) : WSP w (some ⟨g, 0, none⟩) l := by
  refine .inr ⟨g, 0, rfl, fun i x hx => ?_⟩
  have hx' : (l ++ r)[i]? = some x := by
    rw [List.getElem?_append_left (List.getElem?_eq_some_iff.1 hx).1]; exact hx
  have h0 := cellsW_get hx'
  rw [cell_of_block h, Nat.zero_add]
  simpa using h0
theorem cellsW_append (l r : List ByteArray) : cellsW (l ++ r) = cellsW l ++ cellsW r := by simp [cellsW]
theorem cellsW_set (l : List ByteArray) (i : Nat) (x : ByteArray) : (cellsW l).set i (.string x) = cellsW (l.set i x) := by simp [cellsW, List.map_set]
def fillW (l : List ByteArray) (m : ByteArray) (k : Nat) : List ByteArray := l ++ (List.replicate k m ++ List.replicate (80 - k) ⟨#[]⟩)
theorem fillW_set (l : List ByteArray) (m : ByteArray) (k : Nat) (h : k < 80) : (fillW l m k).set (l.length + k) m = fillW l m (k + 1) := by
  unfold fillW
  rw [List.set_append_right _ _ (by omega), Nat.add_sub_cancel_left, List.set_append_right _ _ (by simp)]
  simp only [List.length_replicate, Nat.sub_self]
  rw [show 80 - k = (80 - (k + 1)) + 1 from by omega, List.replicate_succ, List.set_cons_zero, List.replicate_succ', List.append_assoc]
  rfl
theorem fillW_length (l : List ByteArray) (m : ByteArray) (k : Nat) (h : k ≤ 80) : (fillW l m k).length = l.length + 80 := by
  simp [fillW]; omega
theorem fillW_get (l : List ByteArray) (m : ByteArray) (n k : Nat) (h : k < n) : (fillW l m n)[l.length + k]? = some m := by
  unfold fillW
  rw [List.getElem?_append_right (by omega), Nat.add_sub_cancel_left, List.getElem?_append_left (by simpa using h)]
  simp [h]
theorem fillW_start (l : List ByteArray) (m : ByteArray) : fillW l ⟨#[]⟩ 0 = fillW l m 0 := by simp [fillW]
theorem copy_cellsW (l : List ByteArray) : (cellsW (List.replicate (l.length + 80) ⟨#[]⟩)).take 0 ++ cellsW l ++ (cellsW (List.replicate (l.length + 80) ⟨#[]⟩)).drop (0 + (cellsW l).length) = cellsW (fillW l ⟨#[]⟩ 0) := by
  have h : cellsW (List.replicate (l.length + 80) ⟨#[]⟩) = cellsW (List.replicate l.length ⟨#[]⟩) ++ cellsW (List.replicate 80 ⟨#[]⟩) := by
    rw [← cellsW_append, List.replicate_append_replicate]
  rw [h, Nat.zero_add, List.drop_append_of_le_length (by rw [cellsW_length, cellsW_length]; simp), List.drop_of_length_le (by rw [cellsW_length, cellsW_length]; simp)]
  unfold fillW
  simp [cellsW_append]
theorem sizeW : (Tryd.prog.info? 9).map (·.size) = some 1 := by kernel_rfl
theorem madeW (n : Nat) : madeCells #[Value.string ⟨#[]⟩] (n * 1) = (cellsW (List.replicate n ⟨#[]⟩)).toArray := by
  have e : cellsW (List.replicate n ⟨#[]⟩) = List.replicate (n * 1) (.string ⟨#[]⟩) := by simp [cellsW]
  rw [e]
  apply Array.ext
  · simp [madeCells]
  · intro i h1 h2
    simp only [madeCells, Array.getElem_map, List.getElem_toArray, List.getElem_replicate]
    have : (Array.range (n * 1))[i]'(by simpa [madeCells] using h1) % #[Value.string ⟨#[]⟩].size < 1 := Nat.mod_lt _ (by decide)
    generalize (Array.range (n * 1))[i]'(by simpa [madeCells] using h1) % #[Value.string ⟨#[]⟩].size = j at this
    match j, this with
    | 0, _ => rfl
theorem copy_runW (W : World) (g : Nat) (a : Option Addr) (cap : Nat) (l : List ByteArray) (hO : OwnPw W g (cellsW (List.replicate (l.length + 80) ⟨#[]⟩))) (h : WSP W a l) :
    ∃ W1, (Builtin.copy_ #[22, 22] 3 #[.slice (some ⟨g, 0, none⟩) (l.length + 80) (l.length + 80), .slice a l.length cap]).run Tryd.prog W = .ok (.int .i64 (l.length : Int)) W1 ∧
      OwnPw W1 g (cellsW (fillW l ⟨#[]⟩ 0)) ∧ ∀ B w0, Below B w0 W → B ≤ g → Below B w0 W1 := by
  have nil : l = [] → ∃ W1, (Builtin.copy_ #[22, 22] 3 #[.slice (some ⟨g, 0, none⟩) (l.length + 80) (l.length + 80), .slice a l.length cap]).run Tryd.prog W = .ok (.int .i64 (l.length : Int)) W1 ∧
      OwnPw W1 g (cellsW (fillW l ⟨#[]⟩ 0)) ∧ ∀ B w0, Below B w0 W → B ≤ g → Below B w0 W1 := by
    rintro rfl
    refine ⟨W, ?_, by simpa [fillW] using hO, fun _ _ h _ => h⟩
    have hl : ∀ (x : Addr), (loadCells x 0).run Tryd.prog W = .ok #[] W := fun x => by simpa using run_loadCells_list (P := Tryd.prog) W x [] (by simp)
    cases hq : Tryd.prog.info? 9 with
    | none => have := sizeW; simp [hq] at this
    | some i =>
      cases a <;> simp [Builtin.copy_, run_underlying Tryd.underlying22, Builtin.lenOf, Builtin.firstCells, sizeOf, typeInfo, hq, storeCells, hl, goInt]
  rcases h with h | ⟨b, off, rfl, hc⟩
  · exact nil h
  · have hmin : Nat.min l.length (l.length + 80) = l.length := Nat.min_eq_left (by omega)
    have hr := run_copy_rowN (P := Tryd.prog) W 22 22 3 9 1 g 0 (l.length + 80) (l.length + 80) ⟨b, off, none⟩ l.length cap _ 9 (cellsW l) Tryd.underlying22 sizeW hO (by rw [hmin, cellsW_length])
      (WSP.cells (.inr ⟨b, off, rfl, hc⟩)) (by rw [List.size_toArray, cellsW_length, cellsW_length]; simp) (cellsW_one l)
    rw [hmin] at hr
    refine ⟨_, hr, ?_, fun B w0 hb hg => below_setRow hb hg _⟩
    have := setRow_heap W g (cellsW (List.replicate (l.length + 80) ⟨#[]⟩)).toArray ((cellsW (List.replicate (l.length + 80) ⟨#[]⟩)).take 0 ++ cellsW l ++ (cellsW (List.replicate (l.length + 80) ⟨#[]⟩)).drop (0 + (cellsW l).length)).toArray 9 (0, 0) hO
    rw [copy_cellsW] at this
    unfold OwnPw
    rw [← this]
    rw [copy_cellsW]
end Go.Proofs.YtjbdhakogbolkaaDoor
end
section
/- tesserabook.Roomy, Same, Intact of merges: their contracts. -/
namespace Go.Proofs.YtjbdhakogbolkaaDoor
open Go.RowKit Go.Sort Go.Joins
theorem MgAt.new (w : World) (m : Mg) (t : TypeId) : MgAt (w.alloc (.cells #[.int .i64 m.l, .int .i64 m.r, .int .i64 m.i] t)) w.heap.size 0 m := ⟨by simp [go_sem], by simp [go_sem], by simp [go_sem]⟩
def gL : Field := Field.mk "Left" 3 0 false "" "" 0
def gR : Field := Field.mk "Right" 3 1 false "" "" 8
def gI : Field := Field.mk "Id" 3 2 false "" "" 16
theorem fieldsM : Tryd.prog.fieldsOf 24 = #[gL, gR, gI] := by kernel_rfl
theorem undM : Tryd.prog.underlying 24 = some (.struct #[gL, gR, gI]) := by kernel_rfl
theorem heldM : Tryd.prog.stoodInHeld 24 = false := by kernel_rfl
theorem guardM : Tryd.prog.eqGuardType Tryd.prog.depth 24 = false := by kernel_rfl
def mgEq (x y : Mg) : Bool := x.l == y.l && (x.r == y.r && x.i == y.i)
theorem mgEq_self (x : Mg) : mgEq x x = true := by simp [mgEq]
theorem equal_mg (a b c a' b' c' : Int) (W : World) : (Op.equalIn 10000 24 (.agg #[.int .i64 a, .int .i64 b, .int .i64 c]) (.agg #[.int .i64 a', .int .i64 b', .int .i64 c'])).run Tryd.prog W = .ok (a == a' && (b == b' && c == c')) W := by
  rw [run_equalIn_agg W 9999 24 _ _ (by rw [fieldsM]; exact undM) heldM, fieldsM]
  simp [go_sem, Op.eqFields, gL, gR, gI, part]
  by_cases h1 : a = a'
  · by_cases h2 : b = b'
    · by_cases h3 : c = c'
      · simp [h1, h2, h3]
      · simp [h1, h2, h3]
    · simp [h1, h2]
  · simp [h1]
theorem eql_mg (x y : Mg) (v : Bool) (h : mgEq x y = v) (W : World) : (binOp BinOp.eql 24 (.agg #[.int .i64 x.l, .int .i64 x.r, .int .i64 x.i]) (.agg #[.int .i64 y.l, .int .i64 y.r, .int .i64 y.i])).run Tryd.prog W = .ok (.bool v) W := by
  rw [run_eql_struct, equal_mg, ← h]
  rfl
theorem neq_mg (x y : Mg) (v : Bool) (h : (!mgEq x y) = v) (W : World) : (binOp BinOp.neq 24 (.agg #[.int .i64 x.l, .int .i64 x.r, .int .i64 x.i]) (.agg #[.int .i64 y.l, .int .i64 y.r, .int .i64 y.i])).run Tryd.prog W = .ok (.bool v) W := by
  rw [run_neq_struct, equal_mg, ← h]
  rfl
theorem eqIn_mg (x y : Mg) (v : Bool) (h : mgEq x y = v) (W : World) : (Op.equalIn 10000 24 (.agg #[.int .i64 x.l, .int .i64 x.r, .int .i64 x.i]) (.agg #[.int .i64 y.l, .int .i64 y.r, .int .i64 y.i])).run Tryd.prog W = .ok v W := by
  rw [equal_mg, ← h]
  rfl
/-- A block of merges' cells. -/
def OwnPm (w : World) (g : Nat) (L : List Value) : Prop := w.heap[g]? = some (.cells L.toArray 24 (0, 0))
theorem OwnPm.below {w w' : World} {g : Nat} {L : List Value} {B : Nat} (h : OwnPm w g L) (hb : Below B w w') (hg : g < B) : OwnPm w' g L := by
  unfold OwnPm; rw [hb.block g hg]; exact h
theorem OwnPm.lt {w : World} {g : Nat} {L : List Value} (h : OwnPm w g L) : g < w.heap.size := (Array.getElem?_eq_some_iff.1 h).1
theorem OwnPm.cell {w : World} {g : Nat} {L : List Value} (h : OwnPm w g L) (j : Nat) : w.cell? ⟨g, j, none⟩ = L[j]? := by
  rw [cell_of_block h]; simp
theorem OwnPm.free {w : World} {g : Nat} {L : List Value} (h : OwnPm w g L) (j : Nat) : w.frozen? ⟨g, j, none⟩ = false := unfrozen_of_block h j
theorem OwnPm.set {w : World} {g : Nat} {L : List Value} (h : OwnPm w g L) (j : Nat) (v : Value) : OwnPm (w.setCell ⟨g, j, none⟩ v) g (L.set j v) := by
  have := block_setCell h (i := j) v
  unfold OwnPm; rw [this]; simp
theorem MSP.of_block {w : World} {g : Nat} {l r : List Mg} {t : TypeId} {fr : Nat × Nat} (h : w.heap[g]? = some (.cells (cellsM (l ++ r)).toArray t fr)) : MSP w (some ⟨g, 0, none⟩) l := by
  refine .inr ⟨g, 0, rfl, fun i x hx => ?_⟩
  have hx' : (l ++ r)[i]? = some x := by
    rw [List.getElem?_append_left (List.getElem?_eq_some_iff.1 hx).1]; exact hx
  obtain ⟨h0, h1, h2⟩ := cellsM_get _ _ _ hx'
  unfold MgAt
  rw [cell_of_block h, cell_of_block h, cell_of_block h, Nat.zero_add]
  exact ⟨by simpa using h0, by simpa using h1, by simpa using h2⟩
theorem cellsM_append (l r : List Mg) : cellsM (l ++ r) = cellsM l ++ cellsM r := by simp [cellsM]
theorem cellsM_set (l : List Mg) (i : Nat) (x : Mg) : (((cellsM l).set (i * 3) (.int .i64 x.l)).set (i * 3 + 1) (.int .i64 x.r)).set (i * 3 + 2) (.int .i64 x.i) = cellsM (l.set i x) := by
  induction l generalizing i with
  | nil => simp [cellsM]
  | cons y l ih =>
    have e : ∀ z, cellsM (z :: l) = .int .i64 z.l :: .int .i64 z.r :: .int .i64 z.i :: cellsM l := fun z => rfl
    cases i with
    | zero => rfl
    | succ i =>
      have e2 : cellsM ((y :: l).set (i + 1) x) = .int .i64 y.l :: .int .i64 y.r :: .int .i64 y.i :: cellsM (l.set i x) := rfl
      rw [e2, e, ← ih i, show (i + 1) * 3 = i * 3 + 1 + 1 + 1 by omega]
      rfl
def fillM (l : List Mg) (m : Mg) (k : Nat) : List Mg := l ++ (List.replicate k m ++ List.replicate (80 - k) ⟨0, 0, 0⟩)
theorem fillM_set (l : List Mg) (m : Mg) (k : Nat) (h : k < 80) : (fillM l m k).set (l.length + k) m = fillM l m (k + 1) := by
  unfold fillM
  rw [List.set_append_right _ _ (by omega), Nat.add_sub_cancel_left, List.set_append_right _ _ (by simp)]
  simp only [List.length_replicate, Nat.sub_self]
  rw [show 80 - k = (80 - (k + 1)) + 1 from by omega, List.replicate_succ, List.set_cons_zero, List.replicate_succ', List.append_assoc]
  rfl
theorem fillM_length (l : List Mg) (m : Mg) (k : Nat) (h : k ≤ 80) : (fillM l m k).length = l.length + 80 := by
  simp [fillM]; omega
theorem fillM_get (l : List Mg) (m : Mg) (n k : Nat) (h : k < n) : (fillM l m n)[l.length + k]? = some m := by
  unfold fillM
  rw [List.getElem?_append_right (by omega), Nat.add_sub_cancel_left, List.getElem?_append_left (by simpa using h)]
  simp [h]
theorem fillM_start (l : List Mg) (m : Mg) : fillM l ⟨0, 0, 0⟩ 0 = fillM l m 0 := by simp [fillM]
theorem copy_cellsM (l : List Mg) : (cellsM (List.replicate (l.length + 80) ⟨0, 0, 0⟩)).take 0 ++ cellsM l ++ (cellsM (List.replicate (l.length + 80) ⟨0, 0, 0⟩)).drop (0 + (cellsM l).length) = cellsM (fillM l ⟨0, 0, 0⟩ 0) := by
  have h : cellsM (List.replicate (l.length + 80) ⟨0, 0, 0⟩) = cellsM (List.replicate l.length ⟨0, 0, 0⟩) ++ cellsM (List.replicate 80 ⟨0, 0, 0⟩) := by
    rw [← cellsM_append, List.replicate_append_replicate]
  rw [h, Nat.zero_add, List.drop_append_of_le_length (by rw [cellsM_length, cellsM_length]; simp), List.drop_of_length_le (by rw [cellsM_length, cellsM_length]; simp)]
  unfold fillM
  simp [cellsM_append]
theorem sizeM : (Tryd.prog.info? 24).map (·.size) = some 3 := by kernel_rfl
theorem madeMg (n : Nat) : madeCells #[Value.int .i64 0, Value.int .i64 0, Value.int .i64 0] (n * 3) = (cellsM (List.replicate n ⟨0, 0, 0⟩)).toArray := by
  have e : cellsM (List.replicate n ⟨0, 0, 0⟩) = List.replicate (n * 3) (.int .i64 0) := by
    induction n with
    | zero => rfl
    | succ n ih =>
      rw [List.replicate_succ, show cellsM (⟨0, 0, 0⟩ :: List.replicate n ⟨0, 0, 0⟩) = .int .i64 0 :: .int .i64 0 :: .int .i64 0 :: cellsM (List.replicate n ⟨0, 0, 0⟩) from rfl, ih, show (n + 1) * 3 = n * 3 + 1 + 1 + 1 by omega, List.replicate_succ, List.replicate_succ, List.replicate_succ]
  rw [e]
  apply Array.ext
  · simp [madeCells]
  · intro i h1 h2
    simp only [madeCells, Array.getElem_map, List.getElem_toArray, List.getElem_replicate]
    have : (Array.range (n * 3))[i]'(by simpa [madeCells] using h1) % #[Value.int .i64 0, Value.int .i64 0, Value.int .i64 0].size < 3 := Nat.mod_lt _ (by decide)
    generalize (Array.range (n * 3))[i]'(by simpa [madeCells] using h1) % #[Value.int .i64 0, Value.int .i64 0, Value.int .i64 0].size = j at this
    match j, this with
    | 0, _ => rfl
    | 1, _ => rfl
    | 2, _ => rfl
theorem copy_runM (W : World) (g : Nat) (a : Option Addr) (cap : Nat) (l : List Mg) (hO : OwnPm W g (cellsM (List.replicate (l.length + 80) ⟨0, 0, 0⟩))) (h : MSP W a l) :
    ∃ W1, (Builtin.copy_ #[25, 25] 3 #[.slice (some ⟨g, 0, none⟩) (l.length + 80) (l.length + 80), .slice a l.length cap]).run Tryd.prog W = .ok (.int .i64 (l.length : Int)) W1 ∧
      OwnPm W1 g (cellsM (fillM l ⟨0, 0, 0⟩ 0)) ∧ ∀ B w0, Below B w0 W → B ≤ g → Below B w0 W1 := by
  have nil : l = [] → ∃ W1, (Builtin.copy_ #[25, 25] 3 #[.slice (some ⟨g, 0, none⟩) (l.length + 80) (l.length + 80), .slice a l.length cap]).run Tryd.prog W = .ok (.int .i64 (l.length : Int)) W1 ∧
      OwnPm W1 g (cellsM (fillM l ⟨0, 0, 0⟩ 0)) ∧ ∀ B w0, Below B w0 W → B ≤ g → Below B w0 W1 := by
    rintro rfl
    refine ⟨W, ?_, by simpa [fillM] using hO, fun _ _ h _ => h⟩
    have hl : ∀ (x : Addr), (loadCells x 0).run Tryd.prog W = .ok #[] W := fun x => by simpa using run_loadCells_list (P := Tryd.prog) W x [] (by simp)
    cases hq : Tryd.prog.info? 24 with
    | none => have := sizeM; simp [hq] at this
    | some i =>
      cases a <;> simp [Builtin.copy_, run_underlying Tryd.underlying25, Builtin.lenOf, Builtin.firstCells, sizeOf, typeInfo, hq, storeCells, hl, goInt]
  rcases h with h | ⟨b, off, rfl, hc⟩
  · exact nil h
  · have hmin : Nat.min l.length (l.length + 80) = l.length := Nat.min_eq_left (by omega)
    have hr := run_copy_rowN (P := Tryd.prog) W 25 25 3 24 3 g 0 (l.length + 80) (l.length + 80) ⟨b, off, none⟩ l.length cap _ 24 (cellsM l) Tryd.underlying25 sizeM hO (by rw [hmin, cellsM_length])
      (MSP.cells (.inr ⟨b, off, rfl, hc⟩)) (by rw [List.size_toArray, cellsM_length, cellsM_length]; simp; omega) (cellsM_one l)
    rw [hmin] at hr
    refine ⟨_, hr, ?_, fun B w0 hb hg => below_setRow hb hg _⟩
    have := setRow_heap W g (cellsM (List.replicate (l.length + 80) ⟨0, 0, 0⟩)).toArray ((cellsM (List.replicate (l.length + 80) ⟨0, 0, 0⟩)).take 0 ++ cellsM l ++ (cellsM (List.replicate (l.length + 80) ⟨0, 0, 0⟩)).drop (0 + (cellsM l).length)).toArray 24 (0, 0) hO
    rw [copy_cellsM] at this
    unfold OwnPm
    rw [← this]
    rw [copy_cellsM]
theorem MgAt.other {w : World} {b off g : Nat} {x : Mg} (h : MgAt w b off x) (i j k : Nat) (u v y : Value) (hg : b ≠ g) : MgAt (((w.setCell ⟨g, i, none⟩ u).setCell ⟨g, j, none⟩ v).setCell ⟨g, k, none⟩ y) b off x := by
  have e : ∀ o, (((w.setCell ⟨g, i, none⟩ u).setCell ⟨g, j, none⟩ v).setCell ⟨g, k, none⟩ y).cell? ⟨b, o, none⟩ = w.cell? ⟨b, o, none⟩ := fun o => by
    rw [World.cell?_setCell_other _ _ _ _ (fun e => hg (by injection e with e; exact e.symm)), World.cell?_setCell_other _ _ _ _ (fun e => hg (by injection e with e; exact e.symm)), World.cell?_setCell_other _ _ _ _ (fun e => hg (by injection e with e; exact e.symm))]
  exact ⟨(e _).trans h.1, (e _).trans h.2.1, (e _).trans h.2.2⟩
end Go.Proofs.YtjbdhakogbolkaaDoor
end
section
/- tesseralaw5.known; Model.Data; tesserakeep.Same: their contracts. -/
namespace Go.Proofs.YtjbdhakogbolkaaDoor
open Go.RowKit Go.Sort Go.Joins
set_option linter.unusedVariables false
theorem hou_up : upB houW houM houA houB houC = true := by decide +kernel
theorem hou_wf : MWf houM := by
  intro i x hx
  have hi : i < 6 := (List.getElem?_eq_some_iff.1 hx).1
  unfold W64
  rcases (show i = 0 ∨ i = 1 ∨ i = 2 ∨ i = 3 ∨ i = 4 ∨ i = 5 by omega) with rfl | rfl | rfl | rfl | rfl | rfl <;>
    (simp [houM] at hx; subst hx; decide)
/-- Of a model that is right: sizes. -/
structure MOk (ws : List ByteArray) (ms : List Mg) (A B C : List Sp) : Prop where
  m4 : ms.length ≤ 4096
  nm : ws.length = ms.length
  la : A.length ≤ 512
  lb : B.length ≤ 512
  lc : C.length ≤ 512
  words : WRgt ws
  cuts : ∀ j, j < ms.length → badM ws ms j = 0
  cls : (checkA A B C).1 = 0
theorem checkD_ok {ws : List ByteArray} {ms : List Mg} {A B C : List Sp} (h : (checkD ws ms A B C).1 = 0) : MOk ws ms A B C := by
  unfold checkD at h
  by_cases h1 : 4096 < ms.length
  · rw [if_pos h1] at h; cases h
  · rw [if_neg h1] at h
    by_cases h2 : ws.length ≠ ms.length
    · rw [if_pos h2] at h; cases h
    · rw [if_neg h2] at h
      by_cases h3 : (checkA A B C).1 ≠ 0
      · rw [if_pos h3] at h; exact absurd h h3
      · rw [if_neg h3] at h
        have h3 : (checkA A B C).1 = 0 := by simpa using h3
        by_cases h4 : (firstBad (badW ws) ws.length).1 ≠ 0
        · rw [if_pos h4] at h; exact absurd h h4
        · rw [if_neg h4] at h
          by_cases h5 : (firstBad (badM ws ms) ms.length).1 ≠ 0
          · rw [if_pos h5] at h; exact absurd h h5
          · have hl := (check_pass h3).1.len (by omega)
            exact ⟨by omega, by simpa using h2, hl.1, hl.2.1, hl.2.2, firstBad_zero (by simpa using h4), firstBad_zero (by simpa using h5), h3⟩
theorem upB_ok {ws : List ByteArray} {ms : List Mg} {A B C : List Sp} (h : upB ws ms A B C = true) : MOk ws ms A B C := by
  unfold upB at h
  simp only [Bool.and_eq_true, decide_eq_true_eq] at h
  exact checkD_ok h.2
theorem upB_few {ws : List ByteArray} {ms : List Mg} {A B C : List Sp} (h : upB ws ms A B C = true) : ms.length ≤ 300 := by
  have h0 := upB_ok h
  unfold upB largeB at h
  simp only [Bool.and_eq_true, Bool.not_eq_true', Bool.and_eq_false_iff, decide_eq_false_iff_not] at h
  have := h0.m4
  omega
end Go.Proofs.YtjbdhakogbolkaaDoor
end
