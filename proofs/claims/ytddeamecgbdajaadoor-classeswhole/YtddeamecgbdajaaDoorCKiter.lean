/- classes.kinds: its iterator's contract. -/
import Derived.RangeFuncNested
import Derived.RangeFuncBound
import Derived.RangeFuncCalls
import Derived.RangeFuncLeaves
import Derived.RangeFuncBox
import Derived.Shelf.Abstract
import Derived.Shelf.RegionOpen
import Derived.WalkKit
import Derived.OwnWalkIn
import Derived.TacticsInMore
import Derived.LoopNIn
import Derived.LoopIn
import Derived.Test.YtddeamecgbdajaaDoorCKnown
import Derived.Test.YtddeamecgbdajaaDoorCPre
namespace Go.Proofs.YtddeamecgbdajaaDoor
open Go.RowKit Go.Shelf Go.Lib
open Go.Joins
attribute [local go_sem] Oper.semAt_some
/-- What a round of the caller keeps: each block but those of X. -/
def KpX (X : Nat → Obj → Prop) (A B : World) : Prop := A.heap.size ≤ B.heap.size ∧ ∀ (k : Nat) (o : Obj), ¬ X k o → A.heap[k]? = some o → (o.isCells = true ∨ o.isWalk = true) → B.heap[k]? = some o
theorem KpX.refl (X : Nat → Obj → Prop) (A : World) : KpX X A A := ⟨Nat.le_refl _, fun _ _ _ h _ => h⟩
theorem KpX.trans {X : Nat → Obj → Prop} {A B C : World} (h : KpX X A B) (k : KpX X B C) : KpX X A C :=
  ⟨Nat.le_trans h.1 k.1, fun i o hx hi ho => k.2 i o hx (h.2 i o hx hi ho) ho⟩
theorem KpX.of_below {X : Nat → Obj → Prop} {A B : World} (h : Below A.heap.size A B) : KpX X A B :=
  ⟨h.size, fun k _ _ hk _ => (h.block k (Array.getElem?_eq_some_iff.1 hk).1).trans hk⟩
theorem KpX.more {X Y : Nat → Obj → Prop} {A B : World} (h : KpX X A B) (hXY : ∀ k o, X k o → Y k o) : KpX Y A B := ⟨h.1, fun k o hx => h.2 k o (fun e => hx (hXY k o e))⟩
theorem KpX.putObj {X : Nat → Obj → Prop} (W : World) (l : Nat) (_o o' : Obj) (h : W.heap[l]? = some _o) (ho : _o.isCells = false) (hw : _o.isWalk = false) : KpX X W (W.putObj l o') :=
  ⟨by simp, fun k u _ hk hu => by
    have hne : k ≠ l := fun e => by
      subst e
      rw [h] at hk
      cases hk
      rcases hu with hu | hu
      · rw [ho] at hu; cases hu
      · rw [hw] at hu; cases hu
    exact (World.putObj_heap_other hne).trans hk⟩
theorem KpX.setCell {X : Nat → Obj → Prop} (W : World) (b o : Nat) (v : Value) (h : ∀ u, X b u) : KpX X W (W.setCell ⟨b, o, none⟩ v) :=
  ⟨by simp, fun k u hx hk _ => (Below.heap_setCell W ⟨b, o, none⟩ v k (fun e => hx (by have e' : k = b := e; rw [e']; exact h u))).trans hk⟩
theorem cell_cells {W : World} {b o : Nat} {v : Value} (h : W.cell? ⟨b, o, none⟩ = some v) : ∃ c t fr, W.heap[b]? = some (.cells c t fr) := by
  unfold World.cell? at h
  split at h
  · exact ⟨_, _, _, by assumption⟩
  · simp_all
theorem KpX.cell {X : Nat → Obj → Prop} {A B : World} (h : KpX X A B) {b o : Nat} {v : Value} (hx : ∀ u, ¬ X b u) (hc : A.cell? ⟨b, o, none⟩ = some v) : B.cell? ⟨b, o, none⟩ = some v := by
  obtain ⟨c, t, fr, hb⟩ := cell_cells hc
  exact (World.cell?_of_block (w := A) (a := ⟨b, o, none⟩) ((h.2 b _ (hx _) hb (.inl rfl)).trans hb.symm)).trans hc
/-- A row of runs that is no single one. -/
def RowO (o : Obj) : Prop := ∃ c fr, o = .cells c 39 fr ∧ c.size ≠ 4
section
variable {X : Nat → Obj → Prop} {w0 W : World} (hX : ∀ k u, X k u → w0.heap.size ≤ k) (hk : KpX X w0 W)
include hX hk
theorem old_cell {b o : Nat} {v : Value} (hc : w0.cell? ⟨b, o, none⟩ = some v) : W.cell? ⟨b, o, none⟩ = some v := by
  refine hk.cell (fun u e => ?_) hc
  have h1 := hX b u e
  have h2 := World.block_lt_of_cell? w0 _ hc
  simp only at h2
  omega
theorem SPS.kx {a : Option Addr} {l : List Sp} (h : SPS w0 a l) : SPS W a l := by
  rcases h with h | ⟨b, off, rfl, hc⟩
  · exact .inl h
  · exact .inr ⟨b, off, rfl, fun i x hx => ⟨old_cell hX hk (hc i x hx).1, old_cell hX hk (hc i x hx).2⟩⟩
theorem Lst.kx {a : Option Addr} {c : Nat} {l : List Sp} (h : Lst w0 a c l) : Lst W a c l := ⟨h.le, h.cap, h.at'.kx hX hk⟩
theorem TabAt.kx {g : Nat} {A B C : List Sp} (h : TabAt w0 g A B C) : TabAt W g A B C := by
  obtain ⟨a, b, c, ca, cb, cc, ⟨h1, h2, h3⟩, h4, h5, h6⟩ := h
  exact ⟨a, b, c, ca, cb, cc, ⟨old_cell hX hk h1, old_cell hX hk h2, old_cell hX hk h3⟩, h4.kx hX hk, h5.kx hX hk, h6.kx hX hk⟩
theorem GL.kx (h : GL w0) : GL W :=
  ⟨⟨old_cell hX hk h.1.1, old_cell hX hk h.1.2⟩, ⟨old_cell hX hk h.2.1.1, old_cell hX hk h.2.1.2⟩, ⟨old_cell hX hk h.2.2.1, old_cell hX hk h.2.2.2⟩⟩
end
/-- The kinds of a text's items, with their places. -/
def kindsL (A B C : List Sp) (l : List It) : List (Nat × Nat) := l.map fun x => (x.frm, kindIt A B C x.rune x.bad)
theorem grown_iter (w : World) (k : Nat) (s : ByteArray) (pos : Nat) : w.grownBy (w.iterAt k s pos) (some k) :=
  ⟨rfl, rfl, rfl, by rw [iterAt_size]; exact Nat.le_refl _, fun j _ hne => iterAt_other w k j s pos (fun e => hne (by rw [e]))⟩
theorem grown_below {A B : World} (h : Below A.heap.size A B) : A.grownBy B none := ⟨h.os, h.tape, h.output, h.size, fun k hk _ => h.block k hk⟩
set_option maxRecDepth 100000 in
set_option maxHeartbeats 4000000 in
theorem kinds1_in (n : Nat) (hn : 1 ≤ n) (lp Bs Bt g N : Nat) (s : ByteArray) (hs : s.size ≤ 9223372036854775807) (A B C : List Sp) (hRA : Rgt A) (hRB : Rgt B) (hRC : Rgt C) (X : Nat → Obj → Prop) (w0 W : World)
    (hX : ∀ k u, X k u → w0.heap.size ≤ k ∧ (k < W.heap.size ∨ RowO u)) (hT : TabAt w0 g A B C) (hG : GL w0) (J Jx : List (Nat × Nat) → World → Prop)
    (hN : (items 0 (tl s)).length ≤ N) (hJ : AbidesFrom W.heap.size J)
    (hY : ∀ pre x W, J pre W → pre.length < N → YieldAt Fence.wide (n - 1) Tryd.prog lp #[.int .i64 (x.1 : Nat), .int .i64 (x.2 : Nat)] W fun e W' =>
      (e = .returned (.bool true) ∧ J (pre ++ [x]) W' ∧ KpX X W W') ∨ (e = .returned (.bool false) ∧ Jx (pre ++ [x]) W'))
    (hBs : Boxed W Bs 9 (.string s)) (hBt : Boxed W Bt 22 (.pointer (some ⟨g, 0, none⟩))) (hXs : ¬ X Bs (.cells #[.string s] 9)) (hXt : ¬ X Bt (.cells #[.pointer (some ⟨g, 0, none⟩)] 22)) (hK : KpX X w0 W) (h0 : J [] W) :
    CallsIn Fence.wide n Tryd.prog 41 #[.func (.yield lp) #[] #[], .pointer (some ⟨Bs, 0, none⟩), .pointer (some ⟨Bt, 0, none⟩)] W fun e W' => (∃ v, e = .returned v) ∧
      ((∃ ys, ys = kindsL A B C (items 0 (tl s)) ∧ J ys W') ∨ (∃ pre, pre <+: kindsL A B C (items 0 (tl s)) ∧ Jx pre W')) := by
  refine callsIn_of_wp Tryd.func41 rfl trivial ?_ rfl
  simp only [Tryd.ntmps41, List.size_toArray, List.length_cons, List.length_nil, Nat.reduceAdd, Nat.reduceSub, Array.replicate_succ, Array.replicate_zero, List.push_toArray, List.append_toArray, List.nil_append, List.cons_append]
  have cS0 := hBs.cell
  gi_wp2_with fail
  clear cS0
  obtain ⟨Q, hQ⟩ : ∃ Q, Q = W.heap.size := ⟨_, rfl⟩
  have HQ : Hid (Q = W.heap.size) := hQ
  rw [← hQ]
  have hw0 : w0.heap.size ≤ Q := by rw [hQ]; exact hK.1
  have hX0 : ∀ k u, X k u → w0.heap.size ≤ k := fun k u h => (hX k u h).1
  gi_loopw [4] (fun _ wr => ∃ (pos : Nat) (pre : List (Nat × Nat)), pos ≤ s.size ∧ kindsL A B C (items 0 (tl s)) = pre ++ kindsL A B C (items pos ((tl s).drop pos)) ∧ J pre wr ∧ wr.heap[Q]? = some (.stringIter s pos) ∧ Boxed wr Bs 9 (.string s) ∧ Boxed wr Bt 22 (.pointer (some ⟨g, 0, none⟩)) ∧ KpX X w0 wr) (fun _ wr => s.size - wr.iterPos Q)
  case atStart =>
    refine ⟨0, [], Nat.zero_le _, rfl, hJ _ _ _ none h0 (grown_below ((Below.refl _ _).alloc (Nat.le_refl _) _)) (fun r e => by cases e), by rw [hQ]; exact World.iter_heap _ _ _, ?_, ?_, hK.trans (KpX.of_below ((Below.refl _ _).alloc (Nat.le_refl _) _))⟩
    · exact hBs.alloc _
    · exact hBt.alloc _
  case round =>
    clear h0 hBs hBt hK hQ
    obtain ⟨pos, pre, hp, he, hJs, hk, hBs, hBt, hK⟩ := hrel
    by_cases hlt : pos < s.size
    · have hne : (tl s).drop pos ≠ [] := fun h => by have := congrArg List.length h; simp at this; omega
      have hn := fun ty => run_next_any_at (P := Tryd.prog) wr Q s pos ty hk hlt
      have hd := decode_pos s pos hlt
      have hh := decode_head s pos hne
      obtain ⟨f0, f1, f2, f3⟩ := headIt_facts pos ((tl s).drop pos)
      have hbo := bad_of pos ((tl s).drop pos)
      have hbc : kindsL A B C (items pos ((tl s).drop pos)) = (pos, kindIt A B C (headIt pos ((tl s).drop pos)).rune (headIt pos ((tl s).drop pos)).bad) :: kindsL A B C (items (pos + (headIt pos ((tl s).drop pos)).bytes) ((tl s).drop (pos + (headIt pos ((tl s).drop pos)).bytes))) := by
        rw [items_cons pos _ hne, List.drop_drop, ← f1]
        show (_, _) :: _ = _
        rw [f0]
        rfl
      rw [hbc] at he
      have hk2 := iterAt_heap wr Q s pos (pos + (Utf8.decode s pos).2) hk
      have hJ2 := hJ _ _ _ (some Q) hJs (grown_iter wr Q s (pos + (Utf8.decode s pos).2)) (fun r e => by cases e; exact ⟨by rw [HQ.out]; exact Nat.le_refl _, _, hk, rfl⟩)
      have hBlt : Bs ≠ Q := fun e => by subst e; have h : wr.heap[Bs]? = _ := hBs; rw [hk] at h; cases h
      have hBlt' : Bt ≠ Q := fun e => by subst e; have h : wr.heap[Bt]? = _ := hBt; rw [hk] at h; cases h
      have hBs2 : Boxed (wr.iterAt Q s (pos + (Utf8.decode s pos).2)) Bs 9 (.string s) := (iterAt_other wr Q Bs s _ hBlt).trans hBs
      have hBt2 : Boxed (wr.iterAt Q s (pos + (Utf8.decode s pos).2)) Bt 22 (.pointer (some ⟨g, 0, none⟩)) := (iterAt_other wr Q Bt s _ hBlt').trans hBt
      have hK2 : KpX X w0 (wr.iterAt Q s (pos + (Utf8.decode s pos).2)) := ⟨by rw [iterAt_size]; exact hK.1, fun k o hx hko ho => (iterAt_other wr Q k s _ (fun e => by
        have h1 := (Array.getElem?_eq_some_iff.1 hko).1
        omega)).trans (hK.2 k o hx hko ho)⟩
      rw [hh.1, hh.2] at hn
      rw [hh.2] at hd hk2 hJ2 hBs2 hBt2 hK2
      have htr : tl (s.extract pos s.size) = (tl s).drop pos := tl_rest s pos
      have hxs : (s.extract pos s.size).size ≤ 9223372036854775807 := by simp; omega
      have hM := fun wx => mark_any (s.extract pos s.size) wx hxs
      rw [htr] at hM
      generalize headIt pos ((tl s).drop pos) = x at *
      generalize wr.iterAt Q s (pos + x.bytes) = W2 at *
      have HE : Hid (kindsL A B C (items 0 (tl s)) = (pre ++ [(pos, kindIt A B C x.rune x.bad)]) ++ kindsL A B C (items (pos + x.bytes) ((tl s).drop (pos + x.bytes)))) := by rw [List.append_assoc]; exact he
      have hlen : pre.length < N := by
        have := congrArg List.length he
        simp [kindsL] at this
        omega
      have HKd := kind_any g A B C pos 0 x.rune x.bad W2 (hT.kx hX0 hK2) hRA hRB hRC (hG.kx hX0 hK2)
      obtain ⟨kd, hkd⟩ : ∃ kd, kd = kindIt A B C x.rune x.bad := ⟨_, rfl⟩
      rw [← hkd] at HKd HE
      obtain ⟨d1, d2⟩ := hd
      have HD : Hid (1 ≤ x.bytes ∧ pos + x.bytes ≤ s.size) := ⟨d1, d2⟩
      have hp0 : decide (pos ≤ s.size) = true := decide_eq_true hp
      clear hkd he hbc hh f0 f1 f3 hBs hBt hBlt hBlt' hJs hK htr hxs hne d1 d2
      have fin : ∀ (W3 : World), Below W2.heap.size W2 W3 → ∃ fn tmps assign body, (Instr.yield lp #[.int .i64 (pos : Nat), .int .i64 (kd : Nat)]).run Tryd.prog W3 = .ok (.round lp fn tmps assign body) W3 ∧ RoundIn Fence.wide (n - 1) Tryd.prog lp fn tmps assign body W3 fun e W' =>
          (e = .returned (.bool true) ∧ J (pre ++ [(pos, kd)]) W' ∧ W'.heap[Q]? = some (.stringIter s (pos + x.bytes)) ∧ Boxed W' Bs 9 (.string s) ∧ Boxed W' Bt 22 (.pointer (some ⟨g, 0, none⟩)) ∧ KpX X w0 W') ∨ (e = .returned (.bool false) ∧ Jx (pre ++ [(pos, kd)]) W') := fun W3 hb3 => by
        obtain ⟨fn, tmps, assign, body, hy, hR⟩ := hY pre (pos, kd) W3 (hJ _ _ _ none hJ2 (grown_below hb3) (fun r e => by cases e)) hlen
        refine ⟨fn, tmps, assign, body, hy, hR.mono ?_⟩
        rintro e W' (⟨h1, h2, h3⟩ | h)
        · have hkk : KpX X W2 W' := (KpX.of_below hb3).trans h3
          exact .inl ⟨h1, h2, hkk.2 Q _ (fun e => by
            have := HQ.out
            rcases (hX Q _ e).2 with h | ⟨_, _, h, _⟩
            · omega
            · cases h) hk2 (.inr rfl), hkk.2 Bs _ hXs hBs2 (.inl rfl), hkk.2 Bt _ hXt hBt2 (.inl rfl), hK2.trans hkk⟩
        · exact .inr h
      have HF : Hid (∀ (W3 : World), Below W2.heap.size W2 W3 → ∃ fn tmps assign body, (Instr.yield lp #[.int .i64 (pos : Nat), .int .i64 (kd : Nat)]).run Tryd.prog W3 = .ok (.round lp fn tmps assign body) W3 ∧ RoundIn Fence.wide (n - 1) Tryd.prog lp fn tmps assign body W3 fun e W' =>
          (e = .returned (.bool true) ∧ J (pre ++ [(pos, kd)]) W' ∧ W'.heap[Q]? = some (.stringIter s (pos + x.bytes)) ∧ Boxed W' Bs 9 (.string s) ∧ Boxed W' Bt 22 (.pointer (some ⟨g, 0, none⟩)) ∧ KpX X w0 W') ∨ (e = .returned (.bool false) ∧ Jx (pre ++ [(pos, kd)]) W')) := fin
      have HNK : Hid (wr.heap[Q]? = some (.stringIter s pos)) := hk
      have cBs := hBs2.cell
      have cBt := hBt2.cell
      clear fin hJ2 hk2 hK2 hk hBs2 hBt2
      by_cases hr : x.rune = 65533
      · have hb := hbo hr
        rw [hb] at hM
        obtain ⟨bd, hbd⟩ : ∃ bd, bd = x.bad := ⟨_, rfl⟩
        rw [← hbd] at HKd hM
        have q1 : ((x.rune : Int) == 65533) = true := by simp; omega
        clear hb hbd hr hbo f2
        gi_wp2_with fail
        refine ⟨trivial, (callsIn_wide.2 (hM _)).mono ?_⟩
        rintro e w1 ⟨rfl, he⟩
        obtain rfl := he.symm
        have q2 : (!(!bd)) = bd := by simp
        clear hM q1
        gi_wp2_with fail
        refine ⟨trivial, (callsIn_wide.2 HKd).mono ?_⟩
        rintro e w3 ⟨rfl, hb3⟩
        obtain ⟨fn, tmps, assign, body, hy, hR⟩ := HF.out w3 hb3
        clear HKd hb3 cBs cBt
        gi_wp2_with fail
        refine hR.mono ?_
        rintro e W5 (⟨rfl, hJ5, hk5, hs5, ht5, hK5⟩ | ⟨rfl, hJx5⟩)
        · gi_wp2
          go_roundw
          case rel => exact ⟨pos + x.bytes, _, HD.out.2, HE.out, hJ5, hk5, hs5, ht5, hK5⟩
          case measure => simp [World.iterPos, HNK.out, hk5]; have := HD.out; omega
        · gi_wp2
          refine bodyPost_ret (results_none rfl _ _ _) rfl ?_
          exact ⟨⟨_, rfl⟩, .inr ⟨_, ⟨_, HE.out.symm⟩, hJx5⟩⟩
      · have hb : x.bad = false := by
          cases hb : x.bad with
          | false => rfl
          | true => exact absurd (f2 hb).1 hr
        obtain ⟨bd, hbd⟩ : ∃ bd, bd = x.bad := ⟨_, rfl⟩
        rw [← hbd] at HKd hb
        subst hb
        have q1 : ((x.rune : Int) == 65533) = false := by simp; omega
        clear hbd hr hbo f2 hM
        gi_wp2_with (first
          | (refine ⟨trivial, ?_⟩; gi_at_call 18; refine (callsIn_wide.2 HKd).mono ?_; rintro e w3 ⟨rfl, hb3⟩)
          | (refine ⟨(show Fence.wide.fn 42 from trivial), ?_⟩))
        obtain ⟨fn, tmps, assign, body, hy, hR⟩ := HF.out w3 hb3
        clear HKd hb3 cBs cBt
        rw [hy]
        gi_wp2
        refine hR.mono ?_
        rintro e W5 (⟨rfl, hJ5, hk5, hs5, ht5, hK5⟩ | ⟨rfl, hJx5⟩)
        · gi_wp2
          go_roundw
          case rel => exact ⟨pos + x.bytes, _, HD.out.2, HE.out, hJ5, hk5, hs5, ht5, hK5⟩
          case measure => simp [World.iterPos, HNK.out, hk5]; have := HD.out; omega
        · gi_wp2
          refine bodyPost_ret (results_none rfl _ _ _) rfl ?_
          exact ⟨⟨_, rfl⟩, .inr ⟨_, ⟨_, HE.out.symm⟩, hJx5⟩⟩
    · obtain rfl : pos = s.size := by omega
      have hd0 : (tl s).drop s.size = [] := by rw [← tl_len, List.drop_length]
      rw [hd0, items_nil, show kindsL A B C [] = [] from rfl, List.append_nil] at he
      have hn := fun ty => run_next_end_at (P := Tryd.prog) wr Q s s.size ty hk hlt
      have HE : Hid (kindsL A B C (items 0 (tl s)) = pre) := he
      clear he hd0 hk hBs hBt hK
      gi_wp2
      go_end0
      exact ⟨⟨_, rfl⟩, .inl ⟨_, HE.out.symm, hJs⟩⟩
/-- classes.kinds: its captured boxes. -/
theorem kinds_in (n : Nat) (g : Nat) (s : ByteArray) (w : World) :
    CallsIn Fence.wide n Tryd.prog 28 #[.pointer (some ⟨g, 0, none⟩), .string s] w fun e w' => e = .returned (.func (.func 41) #[] #[.pointer (some ⟨w.heap.size + 1, 0, none⟩), .pointer (some ⟨w.heap.size, 0, none⟩)]) ∧ w' = (w.alloc (.cells #[.pointer (some ⟨g, 0, none⟩)] 22)).alloc (.cells #[.string s] 9) := by
  refine callsIn_of_wp Tryd.func28 rfl trivial ?_ rfl
  simp only [Tryd.ntmps28, List.size_toArray, List.length_cons, List.length_nil, Nat.reduceAdd, Nat.reduceSub, Array.replicate_succ, Array.replicate_zero, List.push_toArray, List.append_toArray, List.nil_append, List.cons_append]
  gi_wp2
  go_ret
  exact ⟨rfl, rfl⟩
theorem kinds_stops (n : Nat) (hn : 1 ≤ n) (Bs Bt g : Nat) (s : ByteArray) (hs : s.size ≤ 9223372036854775807) (A B C : List Sp) (hRA : Rgt A) (hRB : Rgt B) (hRC : Rgt C) (X : Nat → Obj → Prop) (w0 w : World)
    (hX : ∀ k u, X k u → w0.heap.size ≤ k ∧ (k < w.heap.size ∨ RowO u)) (hT : TabAt w0 g A B C) (hG : GL w0) (hBs : Boxed w Bs 9 (.string s)) (hBt : Boxed w Bt 22 (.pointer (some ⟨g, 0, none⟩))) (hXs : ¬ X Bs (.cells #[.string s] 9)) (hXt : ¬ X Bt (.cells #[.pointer (some ⟨g, 0, none⟩)] 22)) (hK : KpX X w0 w) :
    SeqStopsK Fence.wide n Tryd.prog 41 #[.pointer (some ⟨Bs, 0, none⟩), .pointer (some ⟨Bt, 0, none⟩)] (fun x : Nat × Nat => #[.int .i64 (x.1 : Nat), .int .i64 (x.2 : Nat)]) (KpX X) (fun ys => ys = kindsL A B C (items 0 (tl s))) (fun pre => pre <+: kindsL A B C (items 0 (tl s))) (items 0 (tl s)).length w := fun lp J Jx W hW hJ _ hY h0 =>
  kinds1_in n hn lp Bs Bt g _ s hs A B C hRA hRB hRC X w0 W (fun k u h => ⟨(hX k u h).1, (hX k u h).2.imp_left fun h => Nat.lt_of_lt_of_le h hW.size⟩) hT hG J Jx (Nat.le_refl _) hJ hY
    ((hW.block Bs hBs.lt).trans hBs) ((hW.block Bt hBt.lt).trans hBt) hXs hXt (hK.trans (KpX.of_below hW)) h0
end Go.Proofs.YtddeamecgbdajaaDoor
