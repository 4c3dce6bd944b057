/- utf.Items: its iterator's contract. -/
import Derived.RangeFuncNested
import Derived.RangeFuncBound
import Derived.RangeFuncCalls
import Derived.RangeFuncLeaves
import Derived.RangeFuncBox
import Derived.Shelf.Abstract
import Derived.Shelf.RegionOpen
import Derived.WalkKit
import Derived.OwnWalkIn
import Derived.TacticsInMore
import Derived.LoopNIn
import Derived.LoopIn
import Derived.Maps.AppendAt
import Derived.Test.YtddeamecgbdajaaDoorUItems
import Derived.Test.YtddeamecgbdajaaDoorUText
namespace Go.Proofs.YtddeamecgbdajaaDoor
open Go.RowKit Go.Shelf
open Go.Joins
attribute [local go_sem] Oper.semAt_some
/-- What a round keeps: what lay below, and each block that is one item. -/
def KpI (n₀ : Nat) (A B : World) : Prop := Below n₀ A B ∧ ∀ (k : Nat) (c : Array Value), A.heap[k]? = some (.cells c 51 (0, 0)) → c.size = 4 → B.heap[k]? = A.heap[k]?
theorem cell_alloc_l {W : World} {a : Addr} {v : Value} (o : Obj) (h : W.cell? a = some v) : (W.alloc o).cell? a = some v := cell_kept h (World.grownBy_alloc W o none) (fun r e => by cases e)
theorem KpI.refl (n₀ : Nat) (A : World) : KpI n₀ A A := ⟨Below.refl _ _, fun _ _ _ _ => rfl⟩
theorem KpI.trans {n₀ : Nat} {A B C : World} (h : KpI n₀ A B) (k : KpI n₀ B C) : KpI n₀ A C :=
  ⟨h.1.trans k.1, fun i c hi hc => by
    have h1 := h.2 i c hi hc
    rw [← h1]
    exact k.2 i c (by rw [h1]; exact hi) hc⟩
theorem KpI.of_below {n₀ : Nat} {A B : World} (h : Below A.heap.size A B) (hn : n₀ ≤ A.heap.size) : KpI n₀ A B :=
  ⟨h.mono hn, fun k _ hk _ => h.block k (Array.getElem?_eq_some_iff.1 hk).1⟩
theorem KpI.putObj {n₀ : Nat} {w : World} (hn : n₀ ≤ w.heap.size) (W : World) (l : Nat) (o o' : Obj) (hl : w.heap.size ≤ l) (h : W.heap[l]? = some o) (ho : o.isCells = false) (hw : o.isWalk = false) : KpI n₀ W (W.putObj l o') :=
  ⟨belowK_b hn W l o o' hl h ho hw, fun k c hk _ => by
    have hne : k ≠ l := fun e => by subst e; rw [h] at hk; cases hk; simp [Obj.isCells] at ho
    exact World.putObj_heap_other hne⟩
/-- What the iterator asks of a round: its text's box and each block that is one item lie as they lay. -/
def KpJ (Bs : Nat) (A B : World) : Prop := A.heap.size ≤ B.heap.size ∧ B.heap[Bs]? = A.heap[Bs]? ∧ ∀ (k : Nat) (c : Array Value), A.heap[k]? = some (.cells c 51 (0, 0)) → c.size = 4 → B.heap[k]? = A.heap[k]?
theorem KpJ.refl (Bs : Nat) (A : World) : KpJ Bs A A := ⟨Nat.le_refl _, rfl, fun _ _ _ _ => rfl⟩
theorem KpJ.trans {Bs : Nat} {A B C : World} (h : KpJ Bs A B) (k : KpJ Bs B C) : KpJ Bs A C :=
  ⟨Nat.le_trans h.1 k.1, k.2.1.trans h.2.1, fun i c hi hc => by
    have h1 := h.2.2 i c hi hc
    rw [← h1]
    exact k.2.2 i c (by rw [h1]; exact hi) hc⟩
theorem KpI.toJ {n₀ Bs : Nat} {A B : World} (h : KpI n₀ A B) (hb : Bs < n₀) : KpJ Bs A B := ⟨h.1.size, h.1.block Bs hb, h.2⟩
theorem KpJ.putObj {Bs : Nat} {w : World} (hn : Bs < w.heap.size) (W : World) (l : Nat) (o o' : Obj) (hl : w.heap.size ≤ l) (h : W.heap[l]? = some o) (ho : o.isCells = false) (_hw : o.isWalk = false) : KpJ Bs W (W.putObj l o') :=
  ⟨by simp, World.putObj_heap_other (by omega), fun k c hk _ => by
    have hne : k ≠ l := fun e => by subst e; rw [h] at hk; cases hk; simp [Obj.isCells] at ho
    exact World.putObj_heap_other hne⟩
set_option maxRecDepth 100000 in
set_option maxHeartbeats 2000000 in
theorem items1_in (n : Nat) (hn : 1 ≤ n) (l Bs N : Nat) (s : ByteArray) (hs : s.size ≤ 9223372036854775807) (J Jx : List It → World → Prop)
    (hN : (items 0 (tl s)).length ≤ N)
    (hJ : ∀ pre A B, J pre A → Below A.heap.size A B → J pre B)
    (hY : ∀ pre x W, J pre W → pre.length < N → YieldAt Fence.wide (n - 1) Tryd.prog l #[itv x] W fun e W' =>
      (e = .returned (.bool true) ∧ J (pre ++ [x]) W' ∧ KpJ Bs W W') ∨ (e = .returned (.bool false) ∧ Jx (pre ++ [x]) W'))
    (W : World) (hBs : W.cell? ⟨Bs, 0, none⟩ = some (.string s)) (h0 : J [] W) :
    CallsIn Fence.wide n Tryd.prog 34 #[.func (.yield l) #[] #[], .pointer (some ⟨Bs, 0, none⟩)] W fun e W' => (∃ v, e = .returned v) ∧
      ((∃ ys, ys = items 0 (tl s) ∧ J ys W') ∨ (∃ pre, pre <+: items 0 (tl s) ∧ Jx pre W')) := by
  refine callsIn_of_wp Tryd.func34 rfl trivial ?_ rfl
  simp only [Tryd.ntmps34, List.size_toArray, List.length_cons, List.length_nil, Nat.reduceAdd, Nat.reduceSub, Array.replicate_succ, Array.replicate_zero, List.push_toArray, List.append_toArray, List.nil_append, List.cons_append]
  gi_wp2
  gi_loopw [3] (fun i wr => ∃ (k : Nat) (pre : List It), k ≤ s.size ∧ i = .int .i64 k ∧ items 0 (tl s) = pre ++ items k ((tl s).drop k) ∧ J pre wr ∧ wr.heap[Bs]? = W.heap[Bs]?) (fun i _ => s.size - (intOf i).toNat)
  case atStart => exact ⟨0, [], Nat.zero_le _, rfl, rfl, h0, rfl⟩
  case round =>
    obtain ⟨k, pre, hk, rfl, he, hJs, hnx⟩ := hrel
    have hcx : wr.cell? ⟨Bs, 0, none⟩ = some (.string s) := (World.cell?_of_block (w := W) (a := ⟨Bs, 0, none⟩) hnx).trans hBs
    have hBlt : Bs < wr.heap.size := World.block_lt_of_cell? wr _ hcx
    have HX : Hid (wr.heap[Bs]? = W.heap[Bs]?) := hnx
    clear hnx
    by_cases hlt : k < s.size
    · have hne : (tl s).drop k ≠ [] := fun h => by have := congrArg List.length h; simp at this; omega
      have hcons := items_cons k _ hne
      have hF := front_any (s.extract k s.size)
      rw [tl_rest] at hF
      have hFs : (s.extract k s.size).size ≤ 9223372036854775807 := by simp; omega
      have hle := front_le ((tl s).drop k)
      have hdw := fun n => decode_whole s k n
      unfold headIt wid at hcons
      have HE : Hid (items 0 (tl s) = pre ++ items k ((tl s).drop k)) := he
      clear he
      obtain ⟨⟨m, b⟩, hr⟩ : ∃ r, r = front ((tl s).drop k) := ⟨_, rfl⟩
      rw [← hr] at hF hle hcons hdw
      have HR : Hid (front ((tl s).drop k) = (m, b)) := hr.symm
      clear hr
      obtain ⟨hle1, hle2, hle3, hle4⟩ := hle
      have hlen : ((tl s).drop k).length = s.size - k := by simp
      rw [hlen] at hle1
      simp only at hle1 hle2 hle3 hle4 hdw hcons
      cases b with
      | true =>
        have hm1 := hle3 rfl
        have hd := hdw m rfl rfl
        clear hdw hle3 hle4
        have hse : (s.extract k (k + m)).size = m := by simp; omega
        gi_wp2_with (first
          | (refine ⟨trivial, ?_⟩; gi_at_call 35; refine (callsIn_wide.2 (badByte_any k _)).mono ?_; rintro e w1 ⟨rfl, hb1⟩; unfold itv; dsimp only; have hcA := fun o => cell_alloc_l o ((hb1.cell (p := ⟨Bs, 0, none⟩) hBlt).trans hcx))
          | (refine ⟨trivial, ?_⟩; gi_at_call 36; refine (callsIn_wide.2 (hF _ hFs)).mono ?_; rintro e w2 ⟨rfl, rfl⟩)
          | (refine ⟨trivial, ?_⟩; gi_at_call 37; refine (callsIn_wide.2 (sequence_any (s.extract k (k + m)) k (by omega) (by omega) _)).mono ?_; rintro e w3 ⟨rfl, hb3⟩; rw [hse, hd]; unfold itv; dsimp only; have hx3 := (hb3.block w1.heap.size (by simp)).trans (World.alloc_heap_new w1 _); have x0 := cell_of_block hx3 (i := 0); have x1 := cell_of_block hx3 (i := 1); have x2 := cell_of_block hx3 (i := 2); have x3 := cell_of_block hx3 (i := 3); have f0 := fun i => unfrozen_of_block hx3 i))
        have hb4 : Below wr.heap.size wr ((((w3.setCell ⟨w1.heap.size, 0, none⟩ (.int .i64 (k : Nat))).setCell ⟨w1.heap.size, 1, none⟩ (.int .i64 (m : Nat))).setCell ⟨w1.heap.size, 2, none⟩ (.int .i32 (rn ((tl s).drop k) : Nat))).setCell ⟨w1.heap.size, 3, none⟩ (.bool false)) := by
          have hz := hb1.size
          exact (((((hb1.alloc hz _).trans (hb3.mono (by simp; omega))).setCell (p := ⟨w1.heap.size, 0, none⟩) hz _).setCell (p := ⟨w1.heap.size, 1, none⟩) hz _).setCell (p := ⟨w1.heap.size, 2, none⟩) hz _).setCell (p := ⟨w1.heap.size, 3, none⟩) hz _
        have hx4 := block_setCell (i := 3) (block_setCell (i := 2) (block_setCell (i := 1) (block_setCell (i := 0) hx3 (.int .i64 (k : Nat))) (.int .i64 (m : Nat))) (.int .i32 (rn ((tl s).drop k) : Nat))) (.bool false)
        obtain ⟨W4, hW4⟩ : ∃ W4, W4 = (((w3.setCell ⟨w1.heap.size, 0, none⟩ (.int .i64 (k : Nat))).setCell ⟨w1.heap.size, 1, none⟩ (.int .i64 (m : Nat))).setCell ⟨w1.heap.size, 2, none⟩ (.int .i32 (rn ((tl s).drop k) : Nat))).setCell ⟨w1.heap.size, 3, none⟩ (.bool false) := ⟨_, rfl⟩
        rw [← hW4] at hb4 hx4 ⊢
        clear hW4 hx3 x0 x1 x2 x3 f0 hb3 hcA
        have hi4 : items 0 (tl s) = (pre ++ [⟨k, m, rn ((tl s).drop k), false⟩]) ++ items (k + m) ((tl s).drop (k + m)) := by
          rw [HE.out, hcons, List.drop_drop]
          simp
        have HL : Hid (items 0 (tl s) = (pre ++ [⟨k, m, rn ((tl s).drop k), false⟩]) ++ items (k + m) ((tl s).drop (k + m))) := hi4
        have hp4 : pre.length < N := by
          have := congrArg List.length hi4
          simp at this
          omega
        obtain ⟨fn, tmps, assign, body, hy, hR⟩ := hY pre ⟨k, m, rn ((tl s).drop k), false⟩ W4 (hJ _ _ _ hJs hb4) hp4
        unfold itv at hy
        dsimp only at hy
        clear hi4 hcons
        rw [hy]
        gi_wp2
        refine hR.mono ?_
        rintro e W5 (⟨rfl, hJ5, hk5⟩ | ⟨rfl, hJx5⟩)
        · have hx5 := hk5.2.2 _ _ hx4 rfl
          rw [hx4] at hx5
          have hx6 := cell_of_block hx5 (i := 1)
          gi_wp2
          go_roundw
          case rel => exact ⟨k + m, _, by omega, by go_num, HL.out, hJ5, hk5.2.1.trans ((hb4.block Bs hBlt).trans HX.out)⟩
          case measure => simp [intOf]; omega
        · gi_wp2
          refine bodyPost_ret (results_none rfl _ _ _) rfl ?_
          exact ⟨⟨_, rfl⟩, .inr ⟨_, ⟨_, HL.out.symm⟩, hJx5⟩⟩
      | false =>
        simp only [Bool.false_eq_true, if_false] at hcons
        clear hdw hle3 hle4
        gi_wp2_with (first
          | (refine ⟨trivial, ?_⟩; gi_at_call 35; refine (callsIn_wide.2 (badByte_any k _)).mono ?_; rintro e w1 ⟨rfl, hb1⟩; unfold itv; dsimp only; have hcA := fun o => cell_alloc_l o ((hb1.cell (p := ⟨Bs, 0, none⟩) hBlt).trans hcx))
          | (refine ⟨trivial, ?_⟩; gi_at_call 36; refine (callsIn_wide.2 (hF _ hFs)).mono ?_; rintro e w2 ⟨rfl, rfl⟩))
        have hb4 : Below wr.heap.size wr (w1.alloc (.cells #[.int .i64 (k : Nat), .int .i64 1, .int .i32 65533, .bool true] 51)) := hb1.alloc hb1.size _
        have hx4 := World.alloc_heap_new w1 (.cells #[.int .i64 (k : Nat), .int .i64 1, .int .i32 65533, .bool true] 51)
        obtain ⟨W4, hW4⟩ : ∃ W4, W4 = w1.alloc (.cells #[.int .i64 (k : Nat), .int .i64 1, .int .i32 65533, .bool true] 51) := ⟨_, rfl⟩
        rw [← hW4] at hb4 hx4 ⊢
        clear hW4 hcA
        have hi4 : items 0 (tl s) = (pre ++ [⟨k, 1, 65533, true⟩]) ++ items (k + 1) ((tl s).drop (k + 1)) := by
          rw [HE.out, hcons, List.drop_drop]
          simp
        have HL : Hid (items 0 (tl s) = (pre ++ [⟨k, 1, 65533, true⟩]) ++ items (k + 1) ((tl s).drop (k + 1))) := hi4
        have hp4 : pre.length < N := by
          have := congrArg List.length hi4
          simp at this
          omega
        obtain ⟨fn, tmps, assign, body, hy, hR⟩ := hY pre ⟨k, 1, 65533, true⟩ W4 (hJ _ _ _ hJs hb4) hp4
        unfold itv at hy
        dsimp only at hy
        clear hi4 hcons
        rw [show ((1 : Nat) : Int) = 1 from rfl, show ((65533 : Nat) : Int) = 65533 from rfl] at hy
        rw [hy]
        gi_wp2
        refine hR.mono ?_
        rintro e W5 (⟨rfl, hJ5, hk5⟩ | ⟨rfl, hJx5⟩)
        · have hx5 := hk5.2.2 _ _ hx4 rfl
          rw [hx4] at hx5
          have hx6 := cell_of_block hx5 (i := 1)
          gi_wp2
          go_roundw
          case rel => exact ⟨k + 1, _, by omega, by go_num, HL.out, hJ5, hk5.2.1.trans ((hb4.block Bs hBlt).trans HX.out)⟩
          case measure => simp [intOf]; omega
        · gi_wp2
          refine bodyPost_ret (results_none rfl _ _ _) rfl ?_
          exact ⟨⟨_, rfl⟩, .inr ⟨_, ⟨_, HL.out.symm⟩, hJx5⟩⟩
    · obtain rfl : k = s.size := by omega
      have hd0 : (tl s).drop s.size = [] := by rw [← tl_len, List.drop_length]
      rw [hd0, items_nil, List.append_nil] at he
      have HE : Hid (items 0 (tl s) = pre) := he
      clear he hd0
      gi_wp2
      go_end0
      exact ⟨⟨_, rfl⟩, .inl ⟨_, HE.out.symm, hJs⟩⟩
/-- utf.Items: the text is boxed; the function value captures the box. -/
theorem items_in (n : Nat) (s : ByteArray) (w : World) :
    CallsIn Fence.wide n Tryd.prog 23 #[.string s] w fun e w' => e = .returned (.func (.func 34) #[] #[.pointer (some ⟨w.heap.size, 0, none⟩)]) ∧ w' = w.alloc (.cells #[.string s] 9) := by
  refine callsIn_of_wp Tryd.func23 rfl trivial ?_ rfl
  simp only [Tryd.ntmps23, List.size_toArray, List.length_cons, List.length_nil, Nat.reduceAdd, Nat.reduceSub, Array.replicate_succ, Array.replicate_zero, List.push_toArray, List.append_toArray, List.nil_append, List.cons_append]
  gi_wp2
  go_ret
  exact ⟨rfl, rfl⟩
theorem items_stops (n : Nat) (hn : 1 ≤ n) (Bs : Nat) (s : ByteArray) (hs : s.size ≤ 9223372036854775807) (w : World) (hc : w.cell? ⟨Bs, 0, none⟩ = some (.string s)) :
    SeqStopsK Fence.wide n Tryd.prog 34 #[.pointer (some ⟨Bs, 0, none⟩)] (fun x : It => #[itv x]) (KpJ Bs) (fun ys => ys = items 0 (tl s)) (fun pre => pre <+: items 0 (tl s)) (items 0 (tl s)).length w := fun l J Jx W hW hJ _ hY h0 =>
  items1_in n hn l Bs _ s hs J Jx (Nat.le_refl _)
    (fun pre A B hA hAB => hJ pre A B none hA ⟨hAB.os, hAB.tape, hAB.output, hAB.size, fun k hk _ => hAB.block k hk⟩ (fun r e => by cases e))
    hY W ((hW.cell (p := ⟨Bs, 0, none⟩) (World.block_lt_of_cell? w _ hc)).trans hc) h0
end Go.Proofs.YtddeamecgbdajaaDoor
