/- chain.All: its iterator's contract. -/
import Derived.RangeFuncNested
import Derived.RangeFuncBound
import Derived.RangeFuncCalls
import Derived.RangeFuncLeaves
import Derived.RangeFuncBox
import Derived.Shelf.Abstract
import Derived.Shelf.RegionOpen
import Derived.OwnWalkIn
import Derived.TacticsInMore
import Derived.LoopNIn
import Derived.LoopIn
import Derived.Maps.AppendAt
import Derived.Lib.QuietBelowIn
import Derived.Sort.QuietTacIn
import Derived.Sort.BigQuietIn
import Derived.Test.YtlmbkhpbfmkmjaaCHBoth
namespace Go.Proofs.Ytlmbkhpbfmkmjaa.CH
open Go.RowKit Go.Shelf
open Go.Joins Go.Sort
attribute [local go_sem] Oper.semAt_some
set_option linter.unusedVariables false
set_option linter.unusedSimpArgs false
/-- What a round keeps: the iterator's box and the chain's two blocks. -/
def KpC (B g b : Nat) (X Y : World) : Prop := X.heap.size ≤ Y.heap.size ∧ Y.heap[B]? = X.heap[B]? ∧ Y.heap[g]? = X.heap[g]? ∧ Y.heap[b]? = X.heap[b]?
theorem KpC.refl (B g b : Nat) (X : World) : KpC B g b X X := ⟨Nat.le_refl _, rfl, rfl, rfl⟩
theorem KpC.trans {B g b : Nat} {X Y Z : World} (h : KpC B g b X Y) (k : KpC B g b Y Z) : KpC B g b X Z :=
  ⟨Nat.le_trans h.1 k.1, k.2.1.trans h.2.1, k.2.2.1.trans h.2.2.1, k.2.2.2.trans h.2.2.2⟩
theorem KpC.of_below {B g b : Nat} {X Y : World} (h : Below X.heap.size X Y) (h1 : B < X.heap.size) (h2 : g < X.heap.size) (h3 : b < X.heap.size) : KpC B g b X Y :=
  ⟨h.size, h.block _ h1, h.block _ h2, h.block _ h3⟩
theorem KpC.putObj {B g b : Nat} {w : World} (h1 : B < w.heap.size) (h2 : g < w.heap.size) (h3 : b < w.heap.size) (W : World) (l : Nat) (o o' : Obj) (hl : w.heap.size ≤ l) (h : W.heap[l]? = some o) (ho : o.isCells = false) (_hw : o.isWalk = false) : KpC B g b W (W.putObj l o') :=
  ⟨by simp, World.putObj_heap_other (by omega), World.putObj_heap_other (by omega), World.putObj_heap_other (by omega)⟩
theorem nx_up {inn : Nat → Bool} {n x : Nat} (hx : x < n) : nxF inn n x = upG inn (n - (x + 1)) (x + 1) := by unfold nxF; rw [if_neg (by omega)]
set_option maxRecDepth 100000 in
set_option maxHeartbeats 2000000 in
theorem all1_in (n0 : Nat) (hn0 : 1 ≤ n0) (lp B g b n N : Nat) (inn : Nat → Bool) (cnt : Int) (J Jx : List Nat → World → Prop)
    (hN : (allG inn n 0).length ≤ N)
    (hJ : ∀ pre X Y, J pre X → Below X.heap.size X Y → J pre Y)
    (hY : ∀ pre x W, J pre W → pre.length < N → YieldAt Fence.wide (n0 - 1) Try.prog lp #[.int .i64 (x : Nat)] W fun e W' =>
      (e = .returned (.bool true) ∧ J (pre ++ [x]) W' ∧ KpC B g b W W') ∨ (e = .returned (.bool false) ∧ Jx (pre ++ [x]) W'))
    (W : World) (hB : W.heap[B]? = some (.cells #[.pointer (some ⟨g, 0, none⟩)] 22 (0, 0))) (hC : Ch W g b n inn cnt) (h0 : J [] W) :
    CallsIn Fence.wide n0 Try.prog 18 #[.func (.yield lp) #[] #[], .pointer (some ⟨B, 0, none⟩)] W fun e W' => (∃ v, e = .returned v) ∧
      ((∃ ys, ys = allG inn n 0 ∧ J ys W') ∨ (∃ pre, pre <+: allG inn n 0 ∧ Jx pre W')) := by
  have HK := fun d os => (knot_any g b n cnt (grow (redrawn W d) os) (hC.own.below (below_regrown W d os)) hC.le).mono (R' := fun e w' => e = .returned (.int .i64 (n : Nat)) ∧ Below (grow (redrawn W d) os).heap.size (grow (redrawn W d) os) w') (by rintro e w' ⟨rfl, rfl⟩; exact ⟨rfl, Below.refl _ _⟩)
  obtain ⟨p, q, hL, hLk⟩ := hC.links
  have q0 := hLk.nx n (Nat.le_refl n) (.inl rfl)
  rw [show nxF inn n n = upG inn (n - 0) 0 by unfold nxF; rw [if_pos rfl]; rfl] at q0
  have c0 := (hL.at' (Nat.le_refl n)).2
  rw [q0] at c0
  have ho := hC.own
  unfold ChAt at ho
  have k0 := cell_regrown c0
  have k1 := cell_regrown ((cell_of_block ho (i := 0)).trans rfl)
  have k2 := cell_regrown ((cell_of_block hB (i := 0)).trans rfl)
  have in0 : 0 ≤ (n : Int) ∧ (n : Int) < (n : Int) + 1 := by omega
  have HB : Hid (W.heap[B]? = some (.cells #[.pointer (some ⟨g, 0, none⟩)] 22 (0, 0))) := hB
  clear q0 c0 hL hLk ho hB
  refine callsIn_of_wp Try.func18 rfl trivial ?_ rfl
  simp only [Try.ntmps18, List.size_toArray, List.length_cons, List.length_nil, Nat.reduceAdd, Nat.reduceSub, Array.replicate_succ, Array.replicate_zero, List.push_toArray, List.append_toArray, List.nil_append, List.cons_append]
  gi_wp2_with fail
  refine wpIn_region_quiet_below rfl (by kernel_rfl) (by kernel_rfl) ?_
  repeat (gi_big_quiet_step (fail))
  refine wpQuietIn_step (fun _ _ _ _ => trivial) (fun K hK => ?_)
  go_simp
  apply Exists.intro
  refine ⟨fun _ => ?_, hK _ ?_⟩
  · exact CallsIn.regrown_of (callsIn_wide.2 (HK _ _))
  clear hK K
  repeat (gi_big_quiet_step (fail))
  refine wpQuietIn_nil ?_
  intro W1 hw'
  have hb1 : Below W.heap.size W W1 := by
    obtain ⟨⟨dq, osq⟩, rfl⟩ := hw'
    exact below_regrown _ _ _
  clear hw' k0 k1 k2 HK
  have hBl : B < W.heap.size := (Array.getElem?_eq_some_iff.1 HB.out).1
  have hC1 := hC.below hb1
  have hB1 := (hb1.block B hBl).trans HB.out
  have hJ1 := hJ _ _ _ h0 hb1
  clear hb1 hC h0 HB
  gi_wp2_with fail
  gi_loopw [3] (fun i wr => ∃ (s : Nat) (pre : List Nat), s ≤ n ∧ i = .int .i64 (upG inn (n - s) s : Nat) ∧ allG inn n 0 = pre ++ allG inn (n - s) s ∧ J pre wr ∧ wr.heap[B]? = W1.heap[B]? ∧ Ch wr g b n inn cnt) (fun i _ => n - (intOf i).toNat)
  case atStart => exact ⟨0, [], Nat.zero_le _, rfl, rfl, hJ1, rfl, hC1⟩
  case round =>
    clear hJ1 hC1
    obtain ⟨s, pre, hs, rfl, he, hJs, hnx, hC⟩ := hrel
    have hB2 := hnx.trans hB1
    have HNX : Hid (wr.heap[B]? = W1.heap[B]?) := hnx
    have HK := knot_any g b n cnt wr hC.own hC.le
    have hup := up_spec inn (n - s) s
    rw [show s + (n - s) = n by omega] at hup
    have hall := all_up inn (n - s) s
    rw [show s + (n - s) = n by omega] at hall
    obtain ⟨x, hx⟩ : ∃ x, x = upG inn (n - s) s := ⟨_, rfl⟩
    rw [← hx] at hup hall ⊢
    have cB := (cell_of_block hB2 (i := 0)).trans rfl
    have HB2 : Hid (wr.heap[B]? = some (.cells #[.pointer (some ⟨g, 0, none⟩)] 22 (0, 0))) := hB2
    clear hx hnx hB2
    by_cases hlt : x < n
    · have hin := hup.2.2.1 hlt
      rw [if_pos hlt] at hall
      have HE : Hid (allG inn n 0 = (pre ++ [x]) ++ allG inn (n - (x + 1)) (x + 1)) := by
        show allG inn n 0 = _
        rw [he, hall, List.append_assoc]
        rfl
      have hp : pre.length < N := by
        have := congrArg List.length HE.out
        simp at this
        omega
      have dne : ((x : Int) != (n : Int)) = true := by simp; omega
      have HH := has_any g b n inn cnt (x : Nat) wr hC
      rw [has_in hlt hin] at HH
      have hxs := hup.1
      clear he hall hup
      gi_wp2_with fail
      refine ⟨trivial, (callsIn_wide.2 HK).mono ?_⟩
      rintro e w1 ⟨rfl, he⟩
      obtain rfl := he.symm
      clear HK
      gi_wp2_with fail
      refine ⟨trivial, (callsIn_wide.2 HH).mono ?_⟩
      rintro e w1 ⟨rfl, he⟩
      obtain rfl := he.symm
      clear HH
      gi_wp2_with fail
      obtain ⟨fn, tmps, assign, body, hy, hR⟩ := hY pre x wr hJs hp
      rw [hy]
      gi_wp2
      refine hR.mono ?_
      have hBlt := hC.lt
      rintro e W5 (⟨rfl, hJ5, hk5⟩ | ⟨rfl, hJx5⟩)
      · have hB5 := hk5.2.1.trans HB2.out
        have hC5 := hC.kept hk5.2.2.1 hk5.2.2.2
        obtain ⟨p, q, hL, hLk⟩ := hC5.links
        have q0 := hLk.nx x (by omega) (.inr hin)
        rw [nx_up hlt] at q0
        have c0 := (hL.at' (i := x) (by omega)).2
        rw [q0] at c0
        have ho := hC5.own
        unfold ChAt at ho
        have k1 := ((cell_of_block ho (i := 0)).trans rfl)
        have k2 := (cell_of_block hB5 (i := 0)).trans rfl
        have in0 : 0 ≤ (x : Int) ∧ (x : Int) < (n : Int) + 1 := by omega
        have hup2 := (up_spec inn (n - (x + 1)) (x + 1)).1
        clear q0 hL hLk ho hB5
        gi_wp2_with fail
        go_roundw
        case rel => exact ⟨x + 1, _, by omega, rfl, HE.out, hJ5, hk5.2.1.trans HNX.out, hC5⟩
        case measure => simp [intOf]; omega
      · gi_wp2
        refine bodyPost_ret (results_none rfl _ _ _) rfl ?_
        exact ⟨⟨_, rfl⟩, .inr ⟨_, ⟨_, HE.out.symm⟩, hJx5⟩⟩
    · obtain rfl : x = n := by omega
      rw [if_neg hlt, ] at hall
      rw [hall, List.append_nil] at he
      have HE : Hid (allG inn x 0 = pre) := he
      have dne : ((x : Int) != (x : Int)) = false := by simp
      clear he hall hup hlt
      gi_wp2_with fail
      refine ⟨trivial, (callsIn_wide.2 HK).mono ?_⟩
      rintro e w1 ⟨rfl, he⟩
      obtain rfl := he.symm
      gi_wp2_with fail
      go_end0
      exact ⟨⟨_, rfl⟩, .inl ⟨_, HE.out.symm, hJs⟩⟩
/-- chain.All: the chain is boxed. -/
theorem all_in (n0 : Nat) (g : Nat) (w : World) :
    CallsIn Fence.wide n0 Try.prog 17 #[.pointer (some ⟨g, 0, none⟩)] w fun e w' => e = .returned (.func (.func 18) #[] #[.pointer (some ⟨w.heap.size, 0, none⟩)]) ∧ w' = w.alloc (.cells #[.pointer (some ⟨g, 0, none⟩)] 22) := by
  refine callsIn_of_wp Try.func17 rfl trivial ?_ rfl
  simp only [Try.ntmps17, List.size_toArray, List.length_cons, List.length_nil, Nat.reduceAdd, Nat.reduceSub, Array.replicate_succ, Array.replicate_zero, List.push_toArray, List.append_toArray, List.nil_append, List.cons_append]
  gi_wp2
  go_ret
  exact ⟨rfl, rfl⟩
theorem all_stops (n0 : Nat) (hn0 : 1 ≤ n0) (B g b n : Nat) (inn : Nat → Bool) (cnt : Int) (w : World) (hB : w.heap[B]? = some (.cells #[.pointer (some ⟨g, 0, none⟩)] 22 (0, 0))) (hC : Ch w g b n inn cnt) :
    SeqStopsK Fence.wide n0 Try.prog 18 #[.pointer (some ⟨B, 0, none⟩)] (fun x : Nat => #[.int .i64 (x : Nat)]) (KpC B g b) (fun ys => ys = allG inn n 0) (fun pre => pre <+: allG inn n 0) (allG inn n 0).length w := fun l J Jx W hW hJ _ hY h0 =>
  all1_in n0 hn0 l B g b n _ inn cnt J Jx (Nat.le_refl _)
    (fun pre X Y hA hAB => hJ pre X Y none hA ⟨hAB.os, hAB.tape, hAB.output, hAB.size, fun k hk _ => hAB.block k hk⟩ (fun r e => by cases e))
    hY W ((hW.block B (Array.getElem?_eq_some_iff.1 hB).1).trans hB) (hC.below hW) h0
end Go.Proofs.Ytlmbkhpbfmkmjaa.CH
