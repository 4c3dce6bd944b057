import Derived.RangeFuncNested
import Derived.RangeFuncBound
import Derived.RangeFuncCalls
import Derived.RangeFuncLeaves
import Derived.RangeFuncBox
import Derived.Shelf.Abstract
import Derived.Shelf.RegionOpen
import Derived.OwnWalkIn
import Derived.TacticsInMore
import Derived.LoopNIn
import Derived.LoopIn
import Derived.Maps.AppendAt
import Derived.Lib.QuietBelowIn
import Derived.Sort.QuietTacIn
import Derived.Sort.BigQuietIn
import Derived.Test.YtjbdhakogbolkaaDoorJ13
import Derived.Test.YtjbdhakogbolkaaDoorJ14
import Derived.Deep.SlicePairs
import Derived.SizedLaws
import Derived.Test.YtjbdhakogbolkaaDoorJ4
import Derived.Test.YtjbdhakogbolkaaDoorJ9
section
/- bpe's joins: its iterator's contract. -/
namespace Go.Proofs.YtjbdhakogbolkaaDoor
open Go.RowKit Go.Joins Go.Sort
attribute [local go_sem] Oper.semAt_some
set_option linter.unusedVariables false
set_option linter.unusedSimpArgs false
/-- A row of pairs, or one. -/
def PairO (o : Obj) : Prop := ∃ cs fr, o = .cells cs 86 fr
/-- What the iterator may turn: the blocks from lo to hi, and pairs. -/
structure RlP (lo hi : Nat) (A B : World) : Prop where
  os : B.os = A.os
  tape : B.tape = A.tape
  output : B.output = A.output
  size : A.heap.size ≤ B.heap.size
  old : ∀ k, k < lo → B.heap[k]? = A.heap[k]?
  block : ∀ k o, hi ≤ k → A.heap[k]? = some o → ¬ PairO o → B.heap[k]? = some o
theorem RlP.refl (lo hi : Nat) (A : World) : RlP lo hi A A := ⟨rfl, rfl, rfl, Nat.le_refl _, fun _ _ => rfl, fun _ _ _ h _ => h⟩
theorem RlP.below {lo hi : Nat} {A B : World} (h : RlP lo hi A B) : Below lo A B := ⟨h.os, h.tape, h.output, h.size, h.old⟩
theorem RlP.trans {lo hi : Nat} {A B C : World} (h : RlP lo hi A B) (k : RlP lo hi B C) : RlP lo hi A C :=
  ⟨k.os.trans h.os, k.tape.trans h.tape, k.output.trans h.output, Nat.le_trans h.size k.size, fun i hi => (k.old i hi).trans (h.old i hi), fun i o hi ho hn => k.block i o hi (h.block i o hi ho hn) hn⟩
theorem RlP.of_below {lo hi : Nat} {A B : World} (h : Below A.heap.size A B) (hl : lo ≤ A.heap.size) : RlP lo hi A B :=
  ⟨h.os, h.tape, h.output, h.size, fun k hk => h.block k (by omega), fun k o _ ho _ => (h.block k (Array.getElem?_eq_some_iff.1 ho).1).trans ho⟩
/-- What a round keeps: what is older than M0; the row's cells. -/
structure KpP (M0 lo hi : Nat) (A B : World) : Prop where
  os : B.os = A.os
  tape : B.tape = A.tape
  output : B.output = A.output
  size : A.heap.size ≤ B.heap.size
  old : ∀ k, k < M0 → B.heap[k]? = A.heap[k]?
  cells : ∀ k o, ((lo ≤ k ∧ k < hi) ∨ PairO o) → o.isCells = true → A.heap[k]? = some o → B.heap[k]? = some o
theorem KpP.trans {M0 lo hi : Nat} {A B C : World} (h : KpP M0 lo hi A B) (k : KpP M0 lo hi B C) : KpP M0 lo hi A C :=
  ⟨k.os.trans h.os, k.tape.trans h.tape, k.output.trans h.output, Nat.le_trans h.size k.size, fun i hi => (k.old i hi).trans (h.old i hi), fun i o hp hc ho => k.cells i o hp hc (h.cells i o hp hc ho)⟩
theorem KpP.of_below {M0 lo hi : Nat} {A B : World} (h : Below A.heap.size A B) (hM : M0 ≤ A.heap.size) : KpP M0 lo hi A B :=
  ⟨h.os, h.tape, h.output, h.size, fun k hk => h.block k (by omega), fun k o _ _ ho => (h.block k (Array.getElem?_eq_some_iff.1 ho).1).trans ho⟩
theorem KpP.putObj {M0 lo hi : Nat} (W : World) (l : Nat) (o o' : Obj) (h : W.heap[l]? = some o) (ho : o.isCells = false) (hM : M0 ≤ l) : KpP M0 lo hi W (W.putObj l o') :=
  ⟨rfl, rfl, rfl, by simp, fun k hk => World.putObj_heap_other (by omega), fun k u _ hu hk => (World.putObj_heap_other (fun e => by
    subst e
    rw [h] at hk
    cases hk
    rw [ho] at hu
    cases hu)).trans hk⟩
theorem KpP.below {M0 lo hi : Nat} {A B : World} (h : KpP M0 lo hi A B) : Below M0 A B := ⟨h.os, h.tape, h.output, h.size, h.old⟩
section
variable {base hi r mg ib cg cb hg : Nat} {ia : Option Addr} {ic n : Nat} {hv hv' : Value} {inn : Nat → Bool} {ids : Nat → Int} {cnt : Int} {H : List HQ.El}
theorem RowAt.kept {M0 : Nat} {w w' : World} (h : RowAt w base r mg ib cg cb hg ia ic n hv inn ids cnt H) (hk : KpP M0 base hi w w') (hh : r < hi ∧ ib < hi ∧ cg < hi ∧ cb < hi ∧ hg < hi) : RowAt w' base r mg ib cg cb hg ia ic n hv inn ids cnt H := by
  have hc := h.hp
  have hrow : HQ.RowE w' base hv H := by
    refine ⟨hc.row.1, ?_⟩
    rcases hc.row.2 with h0 | ⟨b, cap, cur, rfl, hb, hh, rr⟩
    · exact .inl h0
    · exact .inr ⟨b, cap, cur, rfl, hb, hk.cells b _ (.inr ⟨_, _, rfl⟩) rfl hh, rr⟩
  obtain ⟨p, q, ⟨arr, h1, h2⟩, h3⟩ := h.ch.links
  refine ⟨hk.cells r _ (.inl ⟨h.low.1, hh.1⟩) rfl h.own, ?_, ⟨hk.cells cg _ (.inl ⟨h.low.2.1, hh.2.2.1⟩) rfl h.ch.own, h.ch.le, p, q, ⟨arr, hk.cells cb _ (.inl ⟨h.low.2.2, hh.2.2.2.1⟩) rfl h1, h2⟩, h3⟩, ⟨hc.low, hk.cells hg _ (.inl ⟨hc.low, hh.2.2.2.2⟩) rfl hc.at_, hrow, hc.ne⟩, h.low, h.ne⟩
  rcases h.ids with h0 | ⟨h1, ⟨arr, h2, h2'⟩, h3, h4⟩
  · exact .inl h0
  · exact .inr ⟨h1, ⟨arr, hk.cells ib _ (.inl ⟨h3, hh.2.1⟩) rfl h2, h2'⟩, h3, h4⟩
/-- A block of pairs is the heap's. -/
theorem RowAt.pairs {w : World} (h : RowAt w base r mg ib cg cb hg ia ic n hv inn ids cnt H) {k : Nat} (hk : hv.ownBlock = some k) : ∃ cs, w.heap[k]? = some (.cells cs 86 (0, 0)) := by
  rcases h.hp.row.2 with ⟨rfl, _⟩ | ⟨b, cap, cur, rfl, hb, hh, rr⟩
  · cases hk
  · cases hk
    exact ⟨_, hh⟩
theorem Rn.rl {w w' : World} (h : Rn ib cg cb hg hv hv' w w') (ha : RowAt w base r mg ib cg cb hg ia ic n hv inn ids cnt H) (hib : base ≤ ib) (hh : r < hi ∧ ib < hi ∧ cg < hi ∧ cb < hi ∧ hg < hi) : RlP base hi w w' :=
  ⟨h.os, h.tape, h.output, h.size, (h.below ha hib).block, fun k o hk ho hp => by
    have hl := ha.hp.low
    have hlo := ha.low
    rw [h.block k (Array.getElem?_eq_some_iff.1 ho).1 (by omega) (by omega) (by omega) (by omega) (fun e => ?_)]
    · exact ho
    · obtain ⟨cs, h2⟩ := ha.pairs e.symm
      rw [ho] at h2
      cases h2
      exact hp ⟨_, _, rfl⟩⟩
theorem Rn.block' {w w' : World} (h : Rn ib cg cb hg hv hv' w w') (ha : RowAt w base r mg ib cg cb hg ia ic n hv inn ids cnt H) (hh : r < hi ∧ ib < hi ∧ cg < hi ∧ cb < hi ∧ hg < hi) {k : Nat} {o : Obj} (hk : hi ≤ k) (hne : hv.ownBlock ≠ some k) (ho : w.heap[k]? = some o) : w'.heap[k]? = some o ∧ hv'.ownBlock ≠ some k := by
  have hlt := (Array.getElem?_eq_some_iff.1 ho).1
  refine ⟨(h.block k hlt (by omega) (by omega) (by omega) (by omega) (fun e => hne e.symm)).trans ho, fun e => ?_⟩
  rcases h.moved k e with h1 | h1
  · exact hne h1
  · omega
end
def fP0 : Field := Field.mk "rank" 3 0 false "" "tessera/bpe" 0
def fP1 : Field := Field.mk "id" 3 1 false "" "tessera/bpe" 8
def fP2 : Field := Field.mk "left" 3 2 false "" "tessera/bpe" 16
def fP3 : Field := Field.mk "right" 3 3 false "" "tessera/bpe" 24
theorem fieldsP : Tryd.prog.fieldsOf 86 = #[fP0, fP1, fP2, fP3] := by kernel_rfl
theorem undP4 : Tryd.prog.underlying 86 = some (.struct #[fP0, fP1, fP2, fP3]) := by kernel_rfl
theorem heldP : Tryd.prog.stoodInHeld 86 = false := by kernel_rfl
theorem guardP : Tryd.prog.eqGuardType Tryd.prog.depth 86 = false := by kernel_rfl
theorem equal_pr (a b c d a' b' c' d' : Int) (W : World) : (Op.equalIn 10000 86 (.agg #[.int .i64 a, .int .i64 b, .int .i64 c, .int .i64 d]) (.agg #[.int .i64 a', .int .i64 b', .int .i64 c', .int .i64 d'])).run Tryd.prog W = .ok (a == a' && (b == b' && (c == c' && d == d'))) W := by
  rw [run_equalIn_agg W 9999 86 _ _ (by rw [fieldsP]; exact undP4) heldP, fieldsP]
  simp [go_sem, Op.eqFields, fP0, fP1, fP2, fP3, part]
  by_cases h1 : a = a'
  · by_cases h2 : b = b'
    · by_cases h3 : c = c'
      · by_cases h4 : d = d'
        · simp [h1, h2, h3, h4]
        · simp [h1, h2, h3, h4]
      · simp [h1, h2, h3]
    · simp [h1, h2]
  · simp [h1]
theorem neq_pr (a b c d a' b' c' d' : Int) (v : Bool) (h : (!(a == a' && (b == b' && (c == c' && d == d')))) = v) (W : World) : (binOp BinOp.neq 86 (.agg #[.int .i64 a, .int .i64 b, .int .i64 c, .int .i64 d]) (.agg #[.int .i64 a', .int .i64 b', .int .i64 c', .int .i64 d'])).run Tryd.prog W = .ok (.bool v) W := by
  rw [run_neq_struct, equal_pr, ← h]
  rfl
/-- How much is left to do. -/
def measJ (hg cg : Nat) (m : Value) (w : World) : Nat :=
  (match w.cell? ⟨hg, 1, none⟩ with | some (.slice _ n _) => n | _ => 0) + 3 * (match w.cell? ⟨cg, 1, none⟩ with | some (.int _ c) => c.toNat | _ => 0) + (match m with | .bool true => 1 | _ => 0)
theorem measJ_eq {base r mg ib cg cb hg : Nat} {ia : Option Addr} {ic n : Nat} {hv : Value} {inn : Nat → Bool} {ids : Nat → Int} {cnt : Nat} {H : List HQ.El} {w : World} (h : RowAt w base r mg ib cg cb hg ia ic n hv inn ids (cnt : Nat) H) (b : Bool) : measJ hg cg (.bool b) w = H.length + 3 * cnt + (if b then 1 else 0) := by
  have h1 := cell_of_block h.hp.at_ 1
  have h2 := cell_of_block h.ch.own 1
  simp only [List.getElem?_toArray, List.getElem?_cons_zero, List.getElem?_cons_succ] at h1 h2
  unfold measJ
  rw [h1, h2]
  have h3 : (match some hv with | some (.slice _ n _) => n | _ => 0) = H.length := by
    rcases ownsRow_forms h.hp.row with ⟨rfl, h0⟩ | ⟨b, cap, rfl⟩
    · exact h0.symm
    · rfl
  rw [h3]
  simp only [Int.toNat_natCast]
  cases b <;> rfl
/-- joins: the row is boxed. -/
theorem joins_in (n0 : Nat) (r : Nat) (w : World) :
    CallsIn Fence.wide n0 Tryd.prog 35 #[.pointer (some ⟨r, 0, none⟩)] w fun e w' => e = .returned (.func (.func 56) #[] #[.pointer (some ⟨w.heap.size, 0, none⟩)]) ∧ w' = w.alloc (.cells #[.pointer (some ⟨r, 0, none⟩)] 76) := by
  refine callsIn_of_wp Tryd.func35 rfl trivial ?_ rfl
  simp only [Tryd.ntmps35, List.size_toArray, List.length_cons, List.length_nil, Nat.reduceAdd, Nat.reduceSub, Array.replicate_succ, Array.replicate_zero, List.push_toArray, List.append_toArray, List.nil_append, List.cons_append]
  gi_wp2
  go_ret
  exact ⟨rfl, rfl⟩
theorem set4 (w : World) (b : Nat) (c0 c1 c2 c3 v0 v1 v2 v3 : Value) (h : w.heap[b]? = some (.cells #[c0, c1, c2, c3] 86 (0, 0))) :
    ((((w.setCell ⟨b, 0, none⟩ v0).setCell ⟨b, 1, none⟩ v1).setCell ⟨b, 2, none⟩ v2).setCell ⟨b, 3, none⟩ v3).heap[b]? = some (.cells #[v0, v1, v2, v3] 86 (0, 0)) ∧
    ∀ k, k ≠ b → ((((w.setCell ⟨b, 0, none⟩ v0).setCell ⟨b, 1, none⟩ v1).setCell ⟨b, 2, none⟩ v2).setCell ⟨b, 3, none⟩ v3).heap[k]? = w.heap[k]? := by
  refine ⟨block_setCell (i := 3) (block_setCell (i := 2) (block_setCell (i := 1) (block_setCell (i := 0) h _) _) _) _, fun k hk => ?_⟩
  rw [Below.heap_setCell _ ⟨b, 3, none⟩ _ k hk, Below.heap_setCell _ ⟨b, 2, none⟩ _ k hk, Below.heap_setCell _ ⟨b, 1, none⟩ _ k hk, Below.heap_setCell _ ⟨b, 0, none⟩ _ k hk]
section
variable {base hi r mg ib cg cb hg : Nat} {ia : Option Addr} {ic n : Nat} {hv hv' : Value} {inn : Nat → Bool} {ids : Nat → Int} {cnt : Int} {H : List HQ.El}
theorem RowAt.away {w w' : World} (h : RowAt w base r mg ib cg cb hg ia ic n hv inn ids cnt H) {b : Nat} (hb : hi ≤ b) (hh : r < hi ∧ ib < hi ∧ cg < hi ∧ cb < hi ∧ hg < hi) (hne : hv.ownBlock ≠ some b) (hk : ∀ k, k ≠ b → w'.heap[k]? = w.heap[k]?) : RowAt w' base r mg ib cg cb hg ia ic n hv inn ids cnt H := by
  have hc := h.hp
  have hrow : HQ.RowE w' base hv H := by
    refine ⟨hc.row.1, ?_⟩
    rcases hc.row.2 with h0 | ⟨b', cap, cur, rfl, hb', hh', rr⟩
    · exact .inl h0
    · exact .inr ⟨b', cap, cur, rfl, hb', (hk b' (fun e => hne (by rw [← e]; rfl))).trans hh', rr⟩
  refine ⟨(hk r (by omega)).trans h.own, ?_, h.ch.kept (hk cg (by omega)) (hk cb (by omega)), ⟨hc.low, (hk hg (by omega)).trans hc.at_, hrow, hc.ne⟩, h.low, h.ne⟩
  rcases h.ids with h0 | ⟨h1, h2, h3, h4⟩
  · exact .inl h0
  · exact .inr ⟨h1, h2.kept (hk ib (by omega)), h3, h4⟩
theorem pop_row {ms : List Mg} (hh : r < hi ∧ ib < hi ∧ cg < hi ∧ cb < hi ∧ hg < hi) (w : World) (h : RowAt w base r mg ib cg cb hg ia ic n hv inn ids cnt H) (hlen : H.length ≤ 1099511627776) (hH : HPf HQ.keyE H 0) :
    Calls Tryd.prog 57 #[.pointer (some ⟨hg, 0, none⟩)] w fun e w' => ∃ (hv' : Value) (H' : List HQ.El) (y : HQ.El) (more : Bool), e = .returned (.tuple #[.agg #[.int .i64 y.k, .int .i64 y.i, .int .i64 y.p, .int .i64 y.q], .bool more]) ∧ RowAt w' base r mg ib cg cb hg ia ic n hv' inn ids cnt H' ∧ Rn ib cg cb hg hv hv' w w' ∧ HPf HQ.keyE H' 0 ∧
      (more = true → (Cov ms n (inn, ids) H → Cov ms n (inn, ids) (y :: H')) ∧ (∀ z ∈ H', HQ.keyE y ≤ HQ.keyE z) ∧ H'.length + 1 = H.length) ∧ (more = false → H = [] ∧ H' = []) := by
  refine (HQ.pop_any base hg hv H w h.hp hlen).mono ?_
  rintro e w' ⟨hv', rfl, hA, ht⟩
  have hR := h.heap hA ht
  cases hHe : H with
  | nil =>
    subst hHe
    have hl : popF HQ.keyE ([] : List HQ.El) = [] := List.length_eq_zero_iff.1 (by rw [popF_length]; rfl)
    rw [hl] at hR
    exact ⟨hv', [], HQ.zeroE, false, rfl, hR, Rn.of_tn ht, by rw [← hl]; exact popF_heap HQ.keyE hH, (fun h => by cases h), fun _ => ⟨rfl, rfl⟩⟩
  | cons x T =>
    subst hHe
    have hp := popF_perm HQ.keyE (L := x :: T) (x := x) rfl
    refine ⟨hv', _, x, true, rfl, hR, Rn.of_tn ht, popF_heap HQ.keyE hH, (fun _ => ⟨fun hc l k i h => ?_, fun z hz => ?_, ?_⟩), (fun h => by cases h)⟩
    · obtain ⟨y, hy, g⟩ := hc l k i h
      exact ⟨y, hp.mem_iff.2 hy, g⟩
    · exact heap_least_mem HQ.keyE hH rfl z (hp.mem_iff.1 (List.mem_cons_of_mem _ hz))
    · rw [popF_length]; rfl
end
theorem cnt_le (inn : Nat → Bool) (n : Nat) : CH.cntG inn n ≤ n := by
  have := CH.all_len inn n 0
  rw [CH.all_cnt] at this
  exact this
set_option maxRecDepth 100000 in
set_option maxHeartbeats 4000000 in
theorem joins1_in (n0 : Nat) (hn0 : 1 ≤ n0) (lp Bx B0 base hi r mg ib cg cb hg lo : Nat) (ia : Option Addr) (ic n : Nat) (hv0 : Value) (s0 : StJ) (H0 : List HQ.El) (ws : List ByteArray) (ms : List Mg) (A B C : List Sp) (wM : World) (J Jx : List HQ.El → World → Prop)
    (hMI : ∀ l r k i, mergeM ms l r = some (k, i) → W64 i) (hM : ModelAt wM lo mg ws ms A B C) (hMb : wM.heap.size ≤ base)
    (hib : base ≤ ib) (hh : r < hi ∧ ib < hi ∧ cg < hi ∧ cb < hi ∧ hg < hi) (hBx0 : base ≤ Bx ∧ Bx < hi) (hBxn : Bx ≠ ib ∧ Bx ≠ cg ∧ Bx ≠ cb ∧ Bx ≠ hg)
    (hJ : ∀ pre X Y, J pre X → RlP base hi X Y → J pre Y)
    (hY : ∀ pre x W1, B0 ≤ W1.heap.size → J pre W1 → IsP ms n (stJ s0 pre) x → YieldAt Fence.wide (n0 - 1) Tryd.prog lp #[HQ.valE x] W1 fun e W' => KeepsFrom B0 W1 W' ∧
      ((e = .returned (.bool true) ∧ J (pre ++ [x]) W' ∧ KpP wM.heap.size base hi W1 W') ∨ (e = .returned (.bool false) ∧ Jx (pre ++ [x]) W')))
    (W : World) (hB0 : B0 = W.heap.size) (hhi : hi ≤ W.heap.size) (hBox : W.heap[Bx]? = some (.cells #[.pointer (some ⟨r, 0, none⟩)] 76 (0, 0))) (hMw : Below wM.heap.size wM W)
    (hR : RowAt W base r mg ib cg cb hg ia ic n hv0 s0.1 s0.2 (CH.cntG s0.1 n : Nat) H0) (hI : ∀ k, k < n → W64 (s0.2 k)) (hH : HPf HQ.keyE H0 0) (hC : Cov ms n s0 H0) (hlen : H0.length + 3 * CH.cntG s0.1 n + 9 ≤ 1099511627776) (h0 : J [] W) :
    CallsIn Fence.wide n0 Tryd.prog 56 #[.func (.yield lp) #[] #[], .pointer (some ⟨Bx, 0, none⟩)] W fun e W' => (∃ v, e = .returned v) ∧
      ((∃ xs, (NoP ms n (stJ s0 xs) ∧ ∃ hv H, RowAt W' base r mg ib cg cb hg ia ic n hv (stJ s0 xs).1 (stJ s0 xs).2 (CH.cntG (stJ s0 xs).1 n : Nat) H) ∧ J xs W') ∨ (∃ pre, Jx pre W')) := by
  have hn := hR.ch.le
  have HPO := pop_row (ms := ms) hh W hR (by omega) hH
  have cB := cell_of_block hBox 0
  have cR := cell_of_block hR.own 3
  simp only [List.getElem?_toArray, List.getElem?_cons_zero, List.getElem?_cons_succ] at cB cR
  refine callsIn_of_wp Tryd.func56 rfl trivial ?_ rfl
  simp only [Tryd.ntmps56, List.size_toArray, List.length_cons, List.length_nil, Nat.reduceAdd, Nat.reduceSub, Array.replicate_succ, Array.replicate_zero, List.push_toArray, List.append_toArray, List.nil_append, List.cons_append]
  gi_wp2_with fail
  refine ⟨trivial, (callsIn_wide.2 HPO).mono ?_⟩
  rintro e W1 ⟨hv1, H1, y1, m1, rfl, hR1, hT1, hH1, hmt, hmf⟩
  clear HPO cB cR
  have hrl1 := hT1.rl hR hib hh
  have hJ1 := hJ _ _ _ h0 hrl1
  have hM1 := hMw.trans ((hT1.below hR hib).mono hMb)
  have hBb : W1.heap[Bx]? = some (.cells #[.pointer (some ⟨r, 0, none⟩)] 76 (0, 0)) := by
    rw [hT1.block Bx (Array.getElem?_eq_some_iff.1 hBox).1 hBxn.1 hBxn.2.1 hBxn.2.2.1 hBxn.2.2.2 (fun e => ?_)]
    · exact hBox
    · obtain ⟨cs, h2⟩ := hR.pairs e.symm
      rw [hBox] at h2
      exact absurd h2 (by simp)
  have hs1 := hT1.size
  obtain ⟨W2, hW2⟩ : ∃ W2, W2 = W1.alloc (.cells #[.int .i64 y1.k, .int .i64 y1.i, .int .i64 y1.p, .int .i64 y1.q] 86) := ⟨_, rfl⟩
  have hb2 : Below W1.heap.size W1 W2 := by rw [hW2]; exact (Below.refl _ W1).alloc (Nat.le_refl _) _
  have hp2 : W2.heap[W1.heap.size]? = some (.cells #[.int .i64 y1.k, .int .i64 y1.i, .int .i64 y1.p, .int .i64 y1.q] 86 (0, 0)) := by rw [hW2]; exact heap_alloc_new W1 _
  have hJ2 := hJ _ _ _ hJ1 (RlP.of_below hb2 (by omega))
  have hR2 := hR1.below hb2
  have hM2 := hM1.trans (hb2.mono (by omega))
  have hB2 := (hb2.block Bx (Array.getElem?_eq_some_iff.1 hBb).1).trans hBb
  have hs2 := hb2.size
  have hn2 : hv1.ownBlock ≠ some W1.heap.size := fun e => by
    have := World.ownsRow.lt hR1.hp.row _ e
    omega
  gi_wp2_with fail
  rw [← hW2]
  obtain ⟨nb, hnb⟩ : ∃ nb, nb = W1.heap.size := ⟨_, rfl⟩
  have HNB : Hid (nb = W1.heap.size) := hnb
  have hhn : hi ≤ nb := by omega
  rw [← hnb] at hp2 hn2 ⊢
  clear hW2 hnb
  gi_loopw [3, 4] (fun v3 v4 wr => ∃ (pre : List HQ.El) (hv : Value) (H : List HQ.El) (pb : Nat) (more : Bool) (y : HQ.El), v3 = .pointer (some ⟨pb, 0, none⟩) ∧ v4 = .bool more ∧ J pre wr ∧ RowAt wr base r mg ib cg cb hg ia ic n hv (stJ s0 pre).1 (stJ s0 pre).2 (CH.cntG (stJ s0 pre).1 n : Nat) H ∧ hi ≤ pb ∧ hv.ownBlock ≠ some pb ∧ wr.heap[pb]? = some (.cells #[.int .i64 y.k, .int .i64 y.i, .int .i64 y.p, .int .i64 y.q] 86 (0, 0)) ∧ Below wM.heap.size wM wr ∧ wr.heap[Bx]? = some (.cells #[.pointer (some ⟨r, 0, none⟩)] 76 (0, 0)) ∧ B0 ≤ wr.heap.size ∧ (∀ k, k < n → W64 ((stJ s0 pre).2 k)) ∧ HPf HQ.keyE H 0 ∧
      (more = true → Cov ms n (stJ s0 pre) (y :: H) ∧ ∀ z ∈ H, HQ.keyE y ≤ HQ.keyE z) ∧ (more = false → NoP ms n (stJ s0 pre)) ∧ H.length + 3 * CH.cntG (stJ s0 pre).1 n + 9 ≤ 1099511627776) (fun _ v4 wr => measJ hg cg v4 wr)
  case atStart =>
    refine ⟨[], hv1, H1, nb, m1, y1, rfl, rfl, hJ2, hR2, hhn, hn2, hp2, hM2, hB2, by omega, hI, hH1, fun h => ⟨(hmt h).1 hC, (hmt h).2.1⟩, fun h => ?_, ?_⟩
    · have := (hmf h).1
      rw [this] at hC
      exact hC.nil
    · cases m1 with
      | true => have := (hmt rfl).2.2; show H1.length + 3 * CH.cntG s0.1 n + 9 ≤ _; omega
      | false => rw [(hmf rfl).2]; show 0 + 3 * CH.cntG s0.1 n + 9 ≤ _; omega
  case round =>
    clear hJ2 hR2 hhn hn2 hp2 hM2 hB2 hmt hmf hH1 hJ1 hM1 hBb hs1 hb2 hs2 hrl1 hT1 hR1 hR hI hH hC hlen h0 hMw hBox
    obtain ⟨pre, hv, H, pb, more, y, rfl, rfl, hJs, hRs, hpb, hne, hp, hMs, hBs, hss, hIs, hHs, hmt, hmf, hls⟩ := hrel
    have hmold := measJ_eq hRs more
    cases more with
    | false =>
      have hN := hmf rfl
      clear hmt hmf
      gi_wp2_with fail
      go_end0
      exact ⟨⟨_, rfl⟩, .inl ⟨pre, ⟨hN, hv, H, hRs⟩, hJs⟩⟩
    | true =>
      obtain ⟨hCv, hmin⟩ := hmt rfl
      clear hmt hmf
      have HPA := pairAt_any r mg ib cg cb lo _ ia ic n _ (stJ s0 pre).1 (stJ s0 pre).2 y.p ws ms A B C wr hRs.own hRs.idA hRs.ch (hM.below hMs) hIs
      obtain ⟨⟨b, fk, fi, fp, fq⟩, hf⟩ : ∃ f, f = pairF ms (stJ s0 pre).1 n (stJ s0 pre).2 y.p := ⟨_, rfl⟩
      rw [← hf] at HPA
      unfold prV at HPA
      have cB := cell_of_block hBs 0
      have c2 := cell_of_block hp 2
      simp only [List.getElem?_toArray, List.getElem?_cons_zero, List.getElem?_cons_succ] at cB c2
      gi_wp2_with fail
      refine ⟨trivial, (callsIn_wide.2 HPA).mono ?_⟩
      rintro e W3 ⟨rfl, hb3⟩
      clear HPA cB c2
      obtain ⟨W4, hW4⟩ : ∃ W4, W4 = W3.alloc (.cells #[.int .i64 fk, .int .i64 fi, .int .i64 fp, .int .i64 fq] 86) := ⟨_, rfl⟩
      have hb4 : Below wr.heap.size wr W4 := by rw [hW4]; exact hb3.alloc hb3.size _
      have hs3 := hb3.size
      have hp4 := (hb4.block pb (Array.getElem?_eq_some_iff.1 hp).1).trans hp
      have hnow : W4.heap[W3.heap.size]? = some (.cells #[.int .i64 fk, .int .i64 fi, .int .i64 fp, .int .i64 fq] 86 (0, 0)) := by rw [hW4]; exact heap_alloc_new W3 _
      have hJ4 := hJ _ _ _ hJs (RlP.of_below hb4 (by omega))
      have hR4 := hRs.below hb4
      have hM4 := hMs.trans (hb4.mono (by have := hMs.size; omega))
      have hB4 := (hb4.block Bx (Array.getElem?_eq_some_iff.1 hBs).1).trans hBs
      have hs4 := hb4.size
      have n0' := cell_of_block hnow 0
      have n1' := cell_of_block hnow 1
      have n2' := cell_of_block hnow 2
      have n3' := cell_of_block hnow 3
      have y0 := cell_of_block hp4 0
      have y1' := cell_of_block hp4 1
      have y2 := cell_of_block hp4 2
      have y3 := cell_of_block hp4 3
      simp only [List.getElem?_toArray, List.getElem?_cons_zero, List.getElem?_cons_succ] at n0' n1' n2' n3' y0 y1' y2 y3
      rw [hW4] at n0' n1' n2' n3' y0 y1' y2 y3
      cases b with
      | false =>
        have hst : ¬ isNow ms n (stJ s0 pre) y := fun h => by unfold isNow at h; rw [h] at hf; simp only [Prod.mk.injEq] at hf; exact absurd hf.1 (by decide)
        clear hf n0' n1' n2' n3'
        obtain ⟨X, hXl⟩ : ∃ X, X = W3.alloc (.cells #[.int .i64 fk, .int .i64 fi, .int .i64 fp, .int .i64 fq] 86) := ⟨_, rfl⟩
        obtain ⟨pre', hpre⟩ : ∃ pre', pre' = pre := ⟨_, rfl⟩
        have hPE : Hid (pre' = pre) := hpre
        have hJx : J pre' X := by rw [hpre, hXl, ← hW4]; exact hJ4
        have hRx : RowAt X base r mg ib cg cb hg ia ic n hv (stJ s0 pre').1 (stJ s0 pre').2 (CH.cntG (stJ s0 pre').1 n : Nat) H := by rw [hpre, hXl, ← hW4]; exact hR4
        have hpx : X.heap[pb]? = some (.cells #[.int .i64 y.k, .int .i64 y.i, .int .i64 y.p, .int .i64 y.q] 86 (0, 0)) := by rw [hXl, ← hW4]; exact hp4
        have hMx : Below wM.heap.size wM X := by rw [hXl, ← hW4]; exact hM4
        have hBx : X.heap[Bx]? = some (.cells #[.pointer (some ⟨r, 0, none⟩)] 76 (0, 0)) := by rw [hXl, ← hW4]; exact hB4
        have hsx : B0 ≤ X.heap.size := by rw [hXl, ← hW4]; omega
        have hIx : ∀ k, k < n → W64 ((stJ s0 pre').2 k) := by rw [hpre]; exact hIs
        have hHx := hHs
        have hCx : Cov ms n (stJ s0 pre') H := by rw [hpre]; exact cov_stale hCv hst
        have hlx : H.length + 3 * CH.cntG (stJ s0 pre').1 n + 9 ≤ 1099511627776 := by rw [hpre]; exact hls
        have hlm : H.length + 3 * CH.cntG (stJ s0 pre').1 n ≤ H.length + 3 * CH.cntG (stJ s0 pre).1 n := by rw [hpre]; exact Nat.le_refl _
        obtain ⟨hvx, hhvx⟩ : ∃ hvx, hvx = hv := ⟨_, rfl⟩
        rw [← hhvx] at hRx
        clear hpre hst hCv hmin hJ4 hR4 hp4 hM4 hB4 hs4 hW4 hJs hRs hMs hBs hss hIs hHs hls hhvx hne hp hnow
        have px0 := cell_of_block hpx 0
        have px1 := cell_of_block hpx 1
        have px2 := cell_of_block hpx 2
        have px3 := cell_of_block hpx 3
        have pbx := cell_of_block hBx 0
        simp only [List.getElem?_toArray, List.getElem?_cons_zero, List.getElem?_cons_succ] at px0 px1 px2 px3 pbx
        obtain ⟨X2, hX2⟩ : ∃ X2, X2 = X.alloc (.cells #[.int .i64 y.k, .int .i64 y.i, .int .i64 y.p, .int .i64 y.q] 86) := ⟨_, rfl⟩
        have hbX : Below X.heap.size X X2 := by rw [hX2]; exact (Below.refl _ X).alloc (Nat.le_refl _) _
        have hsX : X2.heap.size = X.heap.size + 1 := by rw [hX2]; simp
        have hpX : X2.heap[X.heap.size]? = some (.cells #[.int .i64 y.k, .int .i64 y.i, .int .i64 y.p, .int .i64 y.q] 86 (0, 0)) := by rw [hX2]; exact heap_alloc_new X _
        have hRX := hRx.below hbX
        have hBX := (hbX.block Bx (Array.getElem?_eq_some_iff.1 hBx).1).trans hBx
        have cBX := cell_of_block hBX 0
        have cRX := cell_of_block hRX.own 3
        simp only [List.getElem?_toArray, List.getElem?_cons_zero, List.getElem?_cons_succ] at cBX cRX
        have hnX : hvx.ownBlock ≠ some X.heap.size := fun e => by
          have := World.ownsRow.lt hRx.hp.row _ e
          omega
        have HPO := pop_row (ms := ms) hh X2 hRX (by omega) hHx
        have hhX : hi ≤ X.heap.size := by omega
        have hJX := hJ _ _ _ hJx (RlP.of_below hbX (by omega))
        have hMX := hMx.trans (hbX.mono (by omega))
        obtain ⟨nb, hnb⟩ : ∃ nb, nb = X.heap.size := ⟨_, rfl⟩
        have HNB : Hid (nb = X.heap.size) := hnb
        have hnb3 : nb = W3.heap.size + 1 := by rw [hnb, hXl]; simp
        rw [← hnb] at hpX hnX hhX hsX
        rw [hX2] at cBX cRX
        rw [hXl] at cBX cRX px0 px1 px2 px3 pbx
        gi_wp2_with fail
        rw [← hXl]
        rw [← hX2]
        rw [← hnb3]
        clear hX2 hnb hnb3 hXl px0 px1 px2 px3 pbx hpx hJx hMx hRx
        refine ⟨trivial, (callsIn_wide.2 HPO).mono ?_⟩
        rintro e W7 ⟨hv7, H7, y7, m7, rfl, hR7, hT7, hH7, hmt, hmf⟩
        clear HPO cBX cRX
        obtain ⟨hp7, hn7⟩ := hT7.block' hRX hh hhX hnX hpX
        have hB7 := (hT7.rl hRX hib hh)
        have hJ7 := hJ _ _ _ hJX hB7
        have hM7 := hMX.trans ((hT7.below hRX hib).mono hMb)
        have hBb : W7.heap[Bx]? = some (.cells #[.pointer (some ⟨r, 0, none⟩)] 76 (0, 0)) := by
          rw [hT7.block Bx (Array.getElem?_eq_some_iff.1 hBX).1 hBxn.1 hBxn.2.1 hBxn.2.2.1 hBxn.2.2.2 (fun e => ?_)]
          · exact hBX
          · obtain ⟨cs, h2⟩ := hRX.pairs e.symm
            rw [hBX] at h2
            exact absurd h2 (by simp)
        have q7 := fun j => unfrozen_of_block hp7 j
        have p70 := cell_of_block hp7 0
        have p71 := cell_of_block hp7 1
        have p72 := cell_of_block hp7 2
        have p73 := cell_of_block hp7 3
        simp only [List.getElem?_toArray, List.getElem?_cons_zero, List.getElem?_cons_succ] at p70 p71 p72 p73
        have hs7 := hT7.size
        clear hpX hJX hMX hBX hB7
        gi_wp2_with fail
        obtain ⟨hz1, hz2⟩ := set4 W7 nb _ _ _ _ (.int .i64 y7.k) (.int .i64 y7.i) (.int .i64 y7.p) (.int .i64 y7.q) hp7
        obtain ⟨Z, hZ⟩ : ∃ Z, Z = (((W7.setCell ⟨nb, 0, none⟩ (.int .i64 y7.k)).setCell ⟨nb, 1, none⟩ (.int .i64 y7.i)).setCell ⟨nb, 2, none⟩ (.int .i64 y7.p)).setCell ⟨nb, 3, none⟩ (.int .i64 y7.q) := ⟨_, rfl⟩
        have hZs : Z.heap.size = W7.heap.size ∧ Z.os = W7.os ∧ Z.tape = W7.tape ∧ Z.output = W7.output := by rw [hZ]; exact ⟨by simp, rfl, rfl, rfl⟩
        rw [← hZ] at hz1 hz2 ⊢
        have hRZ := hR7.away hhX hh hn7 hz2
        have hrl : RlP base hi W7 Z := ⟨hZs.2.1, hZs.2.2.1, hZs.2.2.2, by omega, fun k hk => hz2 k (by omega), fun k o hk ho hnp => by
          by_cases e : k = nb
          · rw [e, hp7] at ho
            cases ho
            exact absurd ⟨_, _, rfl⟩ hnp
          · rw [hz2 k e]; exact ho⟩
        clear hZ p70 p71 p72 p73 q7
        have hmz := measJ_eq hRZ m7
        go_roundw
        case rel =>
          refine ⟨pre', hv7, H7, nb, m7, y7, rfl, rfl, hJ _ _ _ hJ7 hrl, hRZ, hhX, hn7, hz1, hM7.trans ⟨hZs.2.1, hZs.2.2.1, hZs.2.2.2, by omega, fun k hk => hz2 k (by omega)⟩, (hz2 Bx (by omega)).trans hBb, by have := HNB.out; omega, hIx, hH7, fun h => ⟨(hmt h).1 hCx, (hmt h).2.1⟩, fun h => ?_, ?_⟩
          · have := (hmf h).1
            rw [this] at hCx
            exact hCx.nil
          · cases m7 with
            | true => have := (hmt rfl).2.2; omega
            | false => rw [(hmf rfl).2]; simp only [List.length_nil]; omega
        case measure =>
          rw [hmz, hmold]
          cases m7 with
          | true => have := (hmt rfl).2.2; simp only [if_true]; omega
          | false => rw [(hmf rfl).2]; simp only [List.length_nil, Bool.false_eq_true, if_false, if_true]; omega
      | true =>
        by_cases hst : isNow ms n (stJ s0 pre) y
        · have hP := isP_of hCv hmin hst
          unfold isNow at hst
          rw [hst] at hf
          simp only [Prod.mk.injEq, true_and] at hf
          obtain ⟨rfl, rfl, rfl, rfl⟩ := hf
          have hcnt := hP.cnt
          have hP0 := hP
          obtain ⟨l, k0, e1, e2, e3, hl, hin, hx, hpa, hmn⟩ := hP0
          have hstp : stp (stJ s0 pre) y = (CH.cutP (stJ s0 pre).1 (CH.nxF (stJ s0 pre).1 n l), updI (stJ s0 pre).2 l y.i) := by unfold stp; rw [e1, e3]; rfl
          have hs1 : CH.cutP (stJ s0 pre).1 (CH.nxF (stJ s0 pre).1 n l) = (stp (stJ s0 pre) y).1 := by rw [hstp]
          have hs2 : updI (stJ s0 pre).2 l y.i = (stp (stJ s0 pre) y).2 := by rw [hstp]
          have hid : W64 y.i := hMI _ _ _ _ (paJ_some hpa).2.2.2
          have hI5 := updI_W64 (k := l) hIs hid
          rw [hs2] at hI5
          have HJO := join_any base r mg ib cg cb hg lo 0 ia ic n hv (stJ s0 pre).1 (stJ s0 pre).2 (CH.cntG (stJ s0 pre).1 n : Nat) H y.k y.i l ws ms A B C wM W4 hR4 hM hM4 hMb hIs (by omega) hl hin hx hid ⟨by omega, by have := cnt_le (stJ s0 pre).1 n; omega⟩
          rw [hs1, hs2, ← e1, ← e3, show ((CH.cntG (stJ s0 pre).1 n : Nat) : Int) - 1 = ((CH.cntG (stp (stJ s0 pre) y).1 n : Nat) : Int) by omega] at HJO
          have hq1 := neq_pr y.k y.i y.p y.q y.k y.i y.p y.q false (by simp)
          have cB4 := cell_of_block hB4 0
          simp only [List.getElem?_toArray, List.getElem?_cons_zero, List.getElem?_cons_succ] at cB4
          rw [hW4] at cB4
          clear e1 e2 e3 hl hin hx hpa hmn hstp hs1 hs2 hid hst
          gi_wp2_with fail
          rw [← hW4]
          refine ⟨trivial, (callsIn_wide.2 HJO).mono ?_⟩
          rintro e W5 ⟨hv5, H1', H5, rfl, hR5, hP1, hP2, hT5⟩
          clear HJO cB4 n0' n1' n2' n3' y0 y1' y2 y3 hW4 hq1
          have hC5 := cov_join hCv hP hP1 hP2
          have hH5 := hP2.heap (hP1.heap hHs)
          have hl5 : H5.length ≤ H.length + 2 := by have := hP1.len; have := hP2.len; omega
          obtain ⟨hp5, hn5⟩ := hT5.block' hR4 hh hpb hne hp4
          have hJ5 := hJ _ _ _ hJ4 (hT5.rl hR4 hib hh)
          have hM5 := hM4.trans ((hT5.below hR4 hib).mono hMb)
          have hB5 : W5.heap[Bx]? = some (.cells #[.pointer (some ⟨r, 0, none⟩)] 76 (0, 0)) := by
            rw [hT5.block Bx (Array.getElem?_eq_some_iff.1 hB4).1 hBxn.1 hBxn.2.1 hBxn.2.2.1 hBxn.2.2.2 (fun e => ?_)]
            · exact hB4
            · obtain ⟨cs, h2⟩ := hR4.pairs e.symm
              rw [hB4] at h2
              exact absurd h2 (by simp)
          have hs5 := hT5.size
          have q0 := cell_of_block hp5 0
          have q1 := cell_of_block hp5 1
          have q2 := cell_of_block hp5 2
          have q3 := cell_of_block hp5 3
          simp only [List.getElem?_toArray, List.getElem?_cons_zero, List.getElem?_cons_succ] at q0 q1 q2 q3
          obtain ⟨fn, tmps, assign, body, hy, hRd⟩ := hY pre y W5 (by omega) hJ5 hP
          unfold HQ.valE at hy
          clear hJ4 hR4 hM4 hB4 hp4 hP1 hP2 hT5 hCv hmin hJs hRs hMs hBs hIs hHs hne hp hnow
          gi_wp2_with fail
          refine hRd.mono ?_
          rintro e W6 ⟨hkf, ⟨rfl, hJ6, hk6⟩ | ⟨rfl, hJx6⟩⟩
          · have hR6 := hR5.kept hk6 hh
            have hp6 := hk6.cells pb _ (.inr ⟨_, _, rfl⟩) rfl hp5
            have hB6 := hk6.cells Bx _ (.inl hBx0) rfl hB5
            have hM6 := hM5.trans hk6.below
            have hs6 := hk6.size
            clear hy hRd q0 q1 q2 q3 hR5 hp5 hB5 hM5 hJ5
            obtain ⟨X, hXe⟩ : ∃ X, X = W6 := ⟨_, rfl⟩
            obtain ⟨pre', hpre⟩ : ∃ pre', pre' = pre ++ [y] := ⟨_, rfl⟩
            have hsp : stJ s0 pre' = stp (stJ s0 pre) y := by rw [hpre]; exact stJ_snoc _ _ _
            have hJx : J pre' X := by rw [hpre, hXe]; exact hJ6
            have hRx : RowAt X base r mg ib cg cb hg ia ic n hv5 (stJ s0 pre').1 (stJ s0 pre').2 (CH.cntG (stJ s0 pre').1 n : Nat) H5 := by rw [hsp, hXe]; exact hR6
            have hpx : X.heap[pb]? = some (.cells #[.int .i64 y.k, .int .i64 y.i, .int .i64 y.p, .int .i64 y.q] 86 (0, 0)) := by rw [hXe]; exact hp6
            have hMx : Below wM.heap.size wM X := by rw [hXe]; exact hM6
            have hBx : X.heap[Bx]? = some (.cells #[.pointer (some ⟨r, 0, none⟩)] 76 (0, 0)) := by rw [hXe]; exact hB6
            have hsx : B0 ≤ X.heap.size := by rw [hXe]; omega
            have hIx : ∀ k, k < n → W64 ((stJ s0 pre').2 k) := by rw [hsp]; exact hI5
            have hHx := hH5
            have hCx : Cov ms n (stJ s0 pre') H5 := by rw [hsp]; exact hC5
            have hlm : H5.length + 3 * CH.cntG (stJ s0 pre').1 n ≤ H.length + 3 * CH.cntG (stJ s0 pre).1 n := by rw [hsp]; omega
            have hlx : H5.length + 3 * CH.cntG (stJ s0 pre').1 n + 9 ≤ 1099511627776 := by omega
            obtain ⟨hvx, hhvx⟩ : ∃ hvx, hvx = hv5 := ⟨_, rfl⟩
            rw [← hhvx] at hRx
            rw [← hXe]
            clear hpre hsp hXe hJ6 hR6 hp6 hM6 hB6 hs6 hs5 hs4 hk6 hkf hH5 hC5 hI5 hcnt hl5 hhvx hn5 hP hss hls
            have px0 := cell_of_block hpx 0
            have px1 := cell_of_block hpx 1
            have px2 := cell_of_block hpx 2
            have px3 := cell_of_block hpx 3
            have pbx := cell_of_block hBx 0
            simp only [List.getElem?_toArray, List.getElem?_cons_zero, List.getElem?_cons_succ] at px0 px1 px2 px3 pbx
            obtain ⟨X2, hX2⟩ : ∃ X2, X2 = X.alloc (.cells #[.int .i64 y.k, .int .i64 y.i, .int .i64 y.p, .int .i64 y.q] 86) := ⟨_, rfl⟩
            have hbX : Below X.heap.size X X2 := by rw [hX2]; exact (Below.refl _ X).alloc (Nat.le_refl _) _
            have hsX : X2.heap.size = X.heap.size + 1 := by rw [hX2]; simp
            have hpX : X2.heap[X.heap.size]? = some (.cells #[.int .i64 y.k, .int .i64 y.i, .int .i64 y.p, .int .i64 y.q] 86 (0, 0)) := by rw [hX2]; exact heap_alloc_new X _
            have hRX := hRx.below hbX
            have hBX := (hbX.block Bx (Array.getElem?_eq_some_iff.1 hBx).1).trans hBx
            have cBX := cell_of_block hBX 0
            have cRX := cell_of_block hRX.own 3
            simp only [List.getElem?_toArray, List.getElem?_cons_zero, List.getElem?_cons_succ] at cBX cRX
            have hnX : hvx.ownBlock ≠ some X.heap.size := fun e => by
              have := World.ownsRow.lt hRx.hp.row _ e
              omega
            have HPO := pop_row (ms := ms) hh X2 hRX (by omega) hHx
            have hhX : hi ≤ X.heap.size := by omega
            have hJX := hJ _ _ _ hJx (RlP.of_below hbX (by omega))
            have hMX := hMx.trans (hbX.mono (by omega))
            obtain ⟨nb, hnb⟩ : ∃ nb, nb = X.heap.size := ⟨_, rfl⟩
            have HNB : Hid (nb = X.heap.size) := hnb
            rw [← hnb] at hpX hnX hhX hsX
            rw [hX2] at cBX cRX
            gi_wp2_with fail
            rw [← hX2]
            rw [← hnb]
            clear hX2 hnb px0 px1 px2 px3 pbx hpx hJx hMx hRx
            refine ⟨trivial, (callsIn_wide.2 HPO).mono ?_⟩
            rintro e W7 ⟨hv7, H7, y7, m7, rfl, hR7, hT7, hH7, hmt, hmf⟩
            clear HPO cBX cRX
            obtain ⟨hp7, hn7⟩ := hT7.block' hRX hh hhX hnX hpX
            have hB7 := (hT7.rl hRX hib hh)
            have hJ7 := hJ _ _ _ hJX hB7
            have hM7 := hMX.trans ((hT7.below hRX hib).mono hMb)
            have hBb : W7.heap[Bx]? = some (.cells #[.pointer (some ⟨r, 0, none⟩)] 76 (0, 0)) := by
              rw [hT7.block Bx (Array.getElem?_eq_some_iff.1 hBX).1 hBxn.1 hBxn.2.1 hBxn.2.2.1 hBxn.2.2.2 (fun e => ?_)]
              · exact hBX
              · obtain ⟨cs, h2⟩ := hRX.pairs e.symm
                rw [hBX] at h2
                exact absurd h2 (by simp)
            have q7 := fun j => unfrozen_of_block hp7 j
            have p70 := cell_of_block hp7 0
            have p71 := cell_of_block hp7 1
            have p72 := cell_of_block hp7 2
            have p73 := cell_of_block hp7 3
            simp only [List.getElem?_toArray, List.getElem?_cons_zero, List.getElem?_cons_succ] at p70 p71 p72 p73
            have hs7 := hT7.size
            clear hpX hJX hMX hBX hB7
            gi_wp2_with fail
            obtain ⟨hz1, hz2⟩ := set4 W7 nb _ _ _ _ (.int .i64 y7.k) (.int .i64 y7.i) (.int .i64 y7.p) (.int .i64 y7.q) hp7
            obtain ⟨Z, hZ⟩ : ∃ Z, Z = (((W7.setCell ⟨nb, 0, none⟩ (.int .i64 y7.k)).setCell ⟨nb, 1, none⟩ (.int .i64 y7.i)).setCell ⟨nb, 2, none⟩ (.int .i64 y7.p)).setCell ⟨nb, 3, none⟩ (.int .i64 y7.q) := ⟨_, rfl⟩
            have hZs : Z.heap.size = W7.heap.size ∧ Z.os = W7.os ∧ Z.tape = W7.tape ∧ Z.output = W7.output := by rw [hZ]; exact ⟨by simp, rfl, rfl, rfl⟩
            rw [← hZ] at hz1 hz2 ⊢
            have hRZ := hR7.away hhX hh hn7 hz2
            have hrl : RlP base hi W7 Z := ⟨hZs.2.1, hZs.2.2.1, hZs.2.2.2, by omega, fun k hk => hz2 k (by omega), fun k o hk ho hnp => by
              by_cases e : k = nb
              · rw [e, hp7] at ho
                cases ho
                exact absurd ⟨_, _, rfl⟩ hnp
              · rw [hz2 k e]; exact ho⟩
            clear hZ p70 p71 p72 p73 q7
            have hmz := measJ_eq hRZ m7
            go_roundw
            case rel =>
              refine ⟨pre', hv7, H7, nb, m7, y7, rfl, rfl, hJ _ _ _ hJ7 hrl, hRZ, hhX, hn7, hz1, hM7.trans ⟨hZs.2.1, hZs.2.2.1, hZs.2.2.2, by omega, fun k hk => hz2 k (by omega)⟩, (hz2 Bx (by omega)).trans hBb, by have := HNB.out; omega, hIx, hH7, fun h => ⟨(hmt h).1 hCx, (hmt h).2.1⟩, fun h => ?_, ?_⟩
              · have := (hmf h).1
                rw [this] at hCx
                exact hCx.nil
              · cases m7 with
                | true => have := (hmt rfl).2.2; omega
                | false => rw [(hmf rfl).2]; simp only [List.length_nil]; omega
            case measure =>
              rw [hmz, hmold]
              cases m7 with
              | true => have := (hmt rfl).2.2; simp only [if_true]; omega
              | false => rw [(hmf rfl).2]; simp only [List.length_nil, Bool.false_eq_true, if_false, if_true]; omega
          · clear hy hRd q0 q1 q2 q3 hR5 hp5 hB5 hM5 hJ5
            gi_wp2_with fail
            refine bodyPost_ret (results_none rfl _ _ _) rfl ?_
            exact ⟨⟨_, rfl⟩, .inr ⟨_, hJx6⟩⟩
        · have hq1 := neq_pr fk fi fp fq y.k y.i y.p y.q true (by
            cases hq : (fk == y.k && (fi == y.i && (fp == y.p && fq == y.q))) with
            | false => rfl
            | true =>
              simp only [Bool.and_eq_true, beq_iff_eq] at hq
              obtain ⟨rfl, rfl, rfl, rfl⟩ := hq
              exact absurd hf.symm hst)
          clear hf
          obtain ⟨X, hXl⟩ : ∃ X, X = W3.alloc (.cells #[.int .i64 fk, .int .i64 fi, .int .i64 fp, .int .i64 fq] 86) := ⟨_, rfl⟩
          obtain ⟨pre', hpre⟩ : ∃ pre', pre' = pre := ⟨_, rfl⟩
          have hPE : Hid (pre' = pre) := hpre
          have hJx : J pre' X := by rw [hpre, hXl, ← hW4]; exact hJ4
          have hRx : RowAt X base r mg ib cg cb hg ia ic n hv (stJ s0 pre').1 (stJ s0 pre').2 (CH.cntG (stJ s0 pre').1 n : Nat) H := by rw [hpre, hXl, ← hW4]; exact hR4
          have hpx : X.heap[pb]? = some (.cells #[.int .i64 y.k, .int .i64 y.i, .int .i64 y.p, .int .i64 y.q] 86 (0, 0)) := by rw [hXl, ← hW4]; exact hp4
          have hMx : Below wM.heap.size wM X := by rw [hXl, ← hW4]; exact hM4
          have hBx : X.heap[Bx]? = some (.cells #[.pointer (some ⟨r, 0, none⟩)] 76 (0, 0)) := by rw [hXl, ← hW4]; exact hB4
          have hsx : B0 ≤ X.heap.size := by rw [hXl, ← hW4]; omega
          have hIx : ∀ k, k < n → W64 ((stJ s0 pre').2 k) := by rw [hpre]; exact hIs
          have hHx := hHs
          have hCx : Cov ms n (stJ s0 pre') H := by rw [hpre]; exact cov_stale hCv hst
          have hlx : H.length + 3 * CH.cntG (stJ s0 pre').1 n + 9 ≤ 1099511627776 := by rw [hpre]; exact hls
          have hlm : H.length + 3 * CH.cntG (stJ s0 pre').1 n ≤ H.length + 3 * CH.cntG (stJ s0 pre).1 n := by rw [hpre]; exact Nat.le_refl _
          obtain ⟨hvx, hhvx⟩ : ∃ hvx, hvx = hv := ⟨_, rfl⟩
          rw [← hhvx] at hRx
          clear hpre hst hCv hmin hJ4 hR4 hp4 hM4 hB4 hs4 hW4 hJs hRs hMs hBs hss hIs hHs hls hhvx hne hp hnow
          have px0 := cell_of_block hpx 0
          have px1 := cell_of_block hpx 1
          have px2 := cell_of_block hpx 2
          have px3 := cell_of_block hpx 3
          have pbx := cell_of_block hBx 0
          simp only [List.getElem?_toArray, List.getElem?_cons_zero, List.getElem?_cons_succ] at px0 px1 px2 px3 pbx
          obtain ⟨X2, hX2⟩ : ∃ X2, X2 = X.alloc (.cells #[.int .i64 y.k, .int .i64 y.i, .int .i64 y.p, .int .i64 y.q] 86) := ⟨_, rfl⟩
          have hbX : Below X.heap.size X X2 := by rw [hX2]; exact (Below.refl _ X).alloc (Nat.le_refl _) _
          have hsX : X2.heap.size = X.heap.size + 1 := by rw [hX2]; simp
          have hpX : X2.heap[X.heap.size]? = some (.cells #[.int .i64 y.k, .int .i64 y.i, .int .i64 y.p, .int .i64 y.q] 86 (0, 0)) := by rw [hX2]; exact heap_alloc_new X _
          have hRX := hRx.below hbX
          have hBX := (hbX.block Bx (Array.getElem?_eq_some_iff.1 hBx).1).trans hBx
          have cBX := cell_of_block hBX 0
          have cRX := cell_of_block hRX.own 3
          simp only [List.getElem?_toArray, List.getElem?_cons_zero, List.getElem?_cons_succ] at cBX cRX
          have hnX : hvx.ownBlock ≠ some X.heap.size := fun e => by
            have := World.ownsRow.lt hRx.hp.row _ e
            omega
          have HPO := pop_row (ms := ms) hh X2 hRX (by omega) hHx
          have hhX : hi ≤ X.heap.size := by omega
          have hJX := hJ _ _ _ hJx (RlP.of_below hbX (by omega))
          have hMX := hMx.trans (hbX.mono (by omega))
          obtain ⟨nb, hnb⟩ : ∃ nb, nb = X.heap.size := ⟨_, rfl⟩
          have HNB : Hid (nb = X.heap.size) := hnb
          have hnb3 : nb = W3.heap.size + 1 := by rw [hnb, hXl]; simp
          rw [← hnb] at hpX hnX hhX hsX
          rw [hX2] at cBX cRX
          rw [hXl] at cBX cRX px0 px1 px2 px3 pbx
          gi_wp2_with fail
          rw [← hXl]
          rw [← hX2]
          rw [← hnb3]
          clear hX2 hnb hnb3 hXl px0 px1 px2 px3 pbx hpx hJx hMx hRx
          refine ⟨trivial, (callsIn_wide.2 HPO).mono ?_⟩
          rintro e W7 ⟨hv7, H7, y7, m7, rfl, hR7, hT7, hH7, hmt, hmf⟩
          clear HPO cBX cRX
          obtain ⟨hp7, hn7⟩ := hT7.block' hRX hh hhX hnX hpX
          have hB7 := (hT7.rl hRX hib hh)
          have hJ7 := hJ _ _ _ hJX hB7
          have hM7 := hMX.trans ((hT7.below hRX hib).mono hMb)
          have hBb : W7.heap[Bx]? = some (.cells #[.pointer (some ⟨r, 0, none⟩)] 76 (0, 0)) := by
            rw [hT7.block Bx (Array.getElem?_eq_some_iff.1 hBX).1 hBxn.1 hBxn.2.1 hBxn.2.2.1 hBxn.2.2.2 (fun e => ?_)]
            · exact hBX
            · obtain ⟨cs, h2⟩ := hRX.pairs e.symm
              rw [hBX] at h2
              exact absurd h2 (by simp)
          have q7 := fun j => unfrozen_of_block hp7 j
          have p70 := cell_of_block hp7 0
          have p71 := cell_of_block hp7 1
          have p72 := cell_of_block hp7 2
          have p73 := cell_of_block hp7 3
          simp only [List.getElem?_toArray, List.getElem?_cons_zero, List.getElem?_cons_succ] at p70 p71 p72 p73
          have hs7 := hT7.size
          clear hpX hJX hMX hBX hB7
          gi_wp2_with fail
          obtain ⟨hz1, hz2⟩ := set4 W7 nb _ _ _ _ (.int .i64 y7.k) (.int .i64 y7.i) (.int .i64 y7.p) (.int .i64 y7.q) hp7
          obtain ⟨Z, hZ⟩ : ∃ Z, Z = (((W7.setCell ⟨nb, 0, none⟩ (.int .i64 y7.k)).setCell ⟨nb, 1, none⟩ (.int .i64 y7.i)).setCell ⟨nb, 2, none⟩ (.int .i64 y7.p)).setCell ⟨nb, 3, none⟩ (.int .i64 y7.q) := ⟨_, rfl⟩
          have hZs : Z.heap.size = W7.heap.size ∧ Z.os = W7.os ∧ Z.tape = W7.tape ∧ Z.output = W7.output := by rw [hZ]; exact ⟨by simp, rfl, rfl, rfl⟩
          rw [← hZ] at hz1 hz2 ⊢
          have hRZ := hR7.away hhX hh hn7 hz2
          have hrl : RlP base hi W7 Z := ⟨hZs.2.1, hZs.2.2.1, hZs.2.2.2, by omega, fun k hk => hz2 k (by omega), fun k o hk ho hnp => by
            by_cases e : k = nb
            · rw [e, hp7] at ho
              cases ho
              exact absurd ⟨_, _, rfl⟩ hnp
            · rw [hz2 k e]; exact ho⟩
          clear hZ p70 p71 p72 p73 q7
          have hmz := measJ_eq hRZ m7
          go_roundw
          case rel =>
            refine ⟨pre', hv7, H7, nb, m7, y7, rfl, rfl, hJ _ _ _ hJ7 hrl, hRZ, hhX, hn7, hz1, hM7.trans ⟨hZs.2.1, hZs.2.2.1, hZs.2.2.2, by omega, fun k hk => hz2 k (by omega)⟩, (hz2 Bx (by omega)).trans hBb, by have := HNB.out; omega, hIx, hH7, fun h => ⟨(hmt h).1 hCx, (hmt h).2.1⟩, fun h => ?_, ?_⟩
            · have := (hmf h).1
              rw [this] at hCx
              exact hCx.nil
            · cases m7 with
              | true => have := (hmt rfl).2.2; omega
              | false => rw [(hmf rfl).2]; simp only [List.length_nil]; omega
          case measure =>
            rw [hmz, hmold]
            cases m7 with
            | true => have := (hmt rfl).2.2; simp only [if_true]; omega
            | false => rw [(hmf rfl).2]; simp only [List.length_nil, Bool.false_eq_true, if_false, if_true]; omega
end Go.Proofs.YtjbdhakogbolkaaDoor
end
section
/- tesseralaw9: known, ChainNumbers. -/
namespace Go.Proofs.YtjbdhakogbolkaaDoor.CH
open Go.RowKit Go.Joins Go.Sort
set_option linter.unusedVariables false
set_option linter.unusedSimpArgs false
set_option maxRecDepth 100000
theorem Ch.lt {w : World} {g b n : Nat} {inn : Nat → Bool} {cnt : Int} (h : Ch w g b n inn cnt) : g < w.heap.size ∧ b < w.heap.size := by
  obtain ⟨p, q, ⟨arr, h1, _⟩, _⟩ := h.links
  exact ⟨(Array.getElem?_eq_some_iff.1 h.own).1, (Array.getElem?_eq_some_iff.1 h1).1⟩
theorem Ch.tn {w w' : World} {g b n g2 b2 : Nat} {inn : Nat → Bool} {cnt : Int} (h : Ch w g b n inn cnt) (ht : Tn g2 b2 w w') (h1 : g ≠ g2) (h2 : g ≠ b2) (h3 : b ≠ g2) (h4 : b ≠ b2) : Ch w' g b n inn cnt :=
  h.kept (ht.block g h.lt.1 h1 h2) (ht.block b h.lt.2 h3 h4)
theorem has_in {inn : Nat → Bool} {n k : Nat} (hk : k < n) (hin : inn k = true) : hasB inn n (k : Nat) = true := by simp [hasB, hk, hin]
end Go.Proofs.YtjbdhakogbolkaaDoor.CH
end
section
/- Lists of numbers that came in. -/
namespace Go.Proofs.YtjbdhakogbolkaaDoor.CH
open Go.ChangeShapes Go.WideShapes Go.ChangeAt Go.RowKit Go.Deep
set_option linter.unusedVariables false
theorem own : ownKnob Tryd.prog.godebug = none := by kernel_rfl
theorem laidOut : laidOutB Tryd.prog = true := by kernel_rfl
theorem cellsI : Tryd.prog.cellsOf 3 = 1 := by kernel_rfl
/-- The slice that begins at a holds the numbers l. -/
def INS (w : World) (a : Option Addr) (l : List Int) : Prop :=
  l = [] ∨ ∃ b off, a = some ⟨b, off, none⟩ ∧ ∀ i x, l[i]? = some x → w.cell? ⟨b, off + i, none⟩ = some (.int .i64 x)
section
variable {H : Type} {enc : TypeId × Value → H} {W : World} {x : DataW H × List MemPlace}
theorem open_inums {fuel : Nat} {a : Option Addr} {len cap : Nat} (h : DataW.trod enc Tryd.prog W 0 (fun _ => true) true fuel 34 (Value.slice a len cap).cells.toList = some x) :
    ∃ l : List Int, len = l.length ∧ l.length ≤ 9223372036854775807 ∧ INS W a l ∧ ∀ r ∈ l, -9223372036854775808 ≤ r ∧ r ≤ 9223372036854775807 := by
  rcases open_ints Tryd.underlying34 Tryd.underlying3 cellsI h with ⟨hcs, _⟩ | ⟨b, n, c, zs, hcs, _, hl, hm, hz, _, hcell, hwz⟩
  · simp [Value.cells] at hcs
    obtain ⟨rfl, rfl, rfl⟩ := hcs
    exact ⟨[], rfl, by simp, .inl rfl, fun r hr => by simp at hr⟩
  · simp [Value.cells] at hcs
    obtain ⟨rfl, rfl, rfl⟩ := hcs
    simp only [if_true] at hz
    unfold maxLen at hm
    refine ⟨zs.take len, by simp; omega, by simp; omega, ?_, ?_⟩
    · by_cases h0 : len = 0
      · subst h0; exact .inl (by simp)
      · obtain ⟨blk, off, rfl, hc⟩ := Go.ints_at hcell (by omega)
        refine .inr ⟨blk, off, rfl, fun i r hr => ?_⟩
        have hi : i < len := by
          have := (List.getElem?_eq_some_iff.1 hr).1
          simp at this
          omega
        rw [hc i (by omega)]
        rw [List.getElem?_take_of_lt hi] at hr
        simp [List.getD, hr]
    · intro r hr
      have h2 := hwz r (List.mem_of_mem_take hr)
      simpa [Lit.wf, IntKind.min, IntKind.max, IntKind.signed, IntKind.bits] using h2
end
end Go.Proofs.YtjbdhakogbolkaaDoor.CH
end
section
/- bpe's refusal, bytesOf, slices.Clone of ints: their contracts. -/
namespace Go.Proofs.YtjbdhakogbolkaaDoor
open Go.RowKit Go.Joins Go.Sort
set_option linter.unusedVariables false
set_option linter.unusedSimpArgs false
set_option maxRecDepth 100000
/-- Why a text of n bytes, or a list of n ids, isn't worked. -/
def refuF (p : Option Addr) (n : Int) : Int := if p = none then 1 else if 1048576 < n then 3 else 0
theorem refusal_any (p : Option Addr) (n : Int) (w : World) :
    Calls Tryd.prog 28 #[.pointer p, .int .i64 n] w fun e w' => e = .returned (.int .i64 (refuF p n)) ∧ w' = w := by
  cases p with
  | none =>
    unfold refuF
    rw [if_pos rfl]
    have hq : ∀ W : World, (binOp BinOp.eql 31 (.pointer none) (.pointer none)).run Tryd.prog W = .ok (.bool true) W := fun _ => by rfl
    go_enter Tryd.func28, Tryd.ntmps28
    go_wp2_with fail
    go_ret
    exact ⟨rfl, rfl⟩
  | some x =>
    unfold refuF
    rw [if_neg (by simp)]
    have hq : ∀ W : World, (binOp BinOp.eql 31 (.pointer (some x)) (.pointer none)).run Tryd.prog W = .ok (.bool false) W := fun _ => by rfl
    by_cases h : 1048576 < n
    · rw [if_pos h]
      have d : decide (1048576 < n) = true := decide_eq_true h
      clear h
      go_enter Tryd.func28, Tryd.ntmps28
      go_wp2_with fail
      go_ret
      exact ⟨rfl, rfl⟩
    · rw [if_neg h]
      have d : decide (1048576 < n) = false := decide_eq_false h
      clear h
      go_enter Tryd.func28, Tryd.ntmps28
      go_wp2_with fail
      go_ret
      exact ⟨rfl, rfl⟩
/-- A text's bytes as ids. -/
def byJ (s : ByteArray) (i : Nat) : Int := ((s.data[i]?).map fun c => (c.toNat : Int)).getD 0
theorem byJ_get {s : ByteArray} {i : Nat} (h : i < s.size) : byJ s i = ((s[i]).toNat : Int) := by
  unfold byJ
  rw [Array.getElem?_eq_getElem (show i < s.data.size from h)]
  rfl
theorem byJ_range (s : ByteArray) (i : Nat) : 0 ≤ byJ s i ∧ byJ s i < 256 := by
  unfold byJ
  cases h : s.data[i]? with
  | none => simp
  | some c =>
    have := c.toNat_lt
    simp
    omega
theorem infoN : (Tryd.prog.info? 3).map (fun i => (i.zero, i.size, i.bytes)) = some (some (.int .i64 0), 1, 8) := by kernel_rfl
theorem run_makeN (n : Nat) (hn : n ≤ 1048577) : ∃ arr : Array Value, (∀ i, i < n → arr[i]? = some (.int .i64 0)) ∧ ∀ u : World, (Instr.makeSlice 34 (.int .i64 (n : Nat)) (.int .i64 (n : Nat))).run Tryd.prog u = .ok (.slice (some ⟨u.heap.size, 0, none⟩) n n) (u.alloc (.cells arr 3)) := by
  obtain ⟨i0, hi, hz0, hz1, hz2⟩ := HQ.info_parts infoN
  refine ⟨madeCells (Value.int .i64 0).cells (n * 1), fun i h => ?_, fun u => ?_⟩
  · have hs : i < (madeCells (Value.int .i64 0).cells (n * 1)).size := by rw [size_madeCells]; omega
    rw [Array.getElem?_eq_getElem hs]
    simp [madeCells, Value.cells, Nat.mod_one]
  · have h := run_make (P := Tryd.prog) u 34 3 i0 _ Tryd.underlying34 hi hz0 .i64 .i64 (n : Int) (n : Int) (by omega) (Int.le_refl _) (by rw [hz2]; omega) (by omega)
    rw [hz1] at h
    have e : ((n : Int)).toNat = n := by omega
    rw [e] at h
    exact h
/-- A block of ints, of which the first k hold f, the others anything. -/
def IdTo (w : World) (b n k : Nat) (f : Nat → Int) : Prop :=
  ∃ arr : Array Value, w.heap[b]? = some (.cells arr 3 (0, 0)) ∧ ∀ i, i < n → ∃ v, arr[i]? = some (.int .i64 v) ∧ (i < k → v = f i)
theorem IdTo.cell {w : World} {b n k : Nat} {f : Nat → Int} (h : IdTo w b n k f) {i : Nat} (hi : i < n) : ∃ v, w.cell? ⟨b, i, none⟩ = some (.int .i64 v) ∧ w.frozen? ⟨b, i, none⟩ = false := by
  obtain ⟨arr, h1, h2⟩ := h
  obtain ⟨v, h3, _⟩ := h2 i hi
  exact ⟨v, (cell_of_block h1 i).trans h3, unfrozen_of_block h1 i⟩
theorem IdTo.set {w : World} {b n k : Nat} {f : Nat → Int} (h : IdTo w b n k f) : IdTo (w.setCell ⟨b, k, none⟩ (.int .i64 (f k))) b n (k + 1) f := by
  obtain ⟨arr, h1, h2⟩ := h
  refine ⟨_, block_setCell h1 _, fun i hi => ?_⟩
  obtain ⟨v, h3, h4⟩ := h2 i hi
  by_cases e : i = k
  · exact ⟨f k, by rw [CH.arr_set h3, if_pos e], fun _ => by rw [e]⟩
  · exact ⟨v, by rw [CH.arr_set h3, if_neg e], fun hk => h4 (by omega)⟩
theorem IdTo.all {w : World} {b n : Nat} {f : Nat → Int} (h : IdTo w b n n f) : IdAt w b n f := by
  obtain ⟨arr, h1, h2⟩ := h
  refine ⟨arr, h1, fun i hi => ?_⟩
  obtain ⟨v, h3, h4⟩ := h2 i hi
  rw [h3, h4 hi]
set_option maxHeartbeats 1000000 in
theorem bytesOf_any (s : ByteArray) (w : World) (hs : s.size ≤ 1048576) :
    Calls Tryd.prog 31 #[.string s] w fun e w' => e = .returned (.slice (some ⟨w.heap.size, 0, none⟩) s.size s.size) ∧ IdAt w' w.heap.size s.size (byJ s) ∧ Below w.heap.size w w' := by
  obtain ⟨arr, ha, hmk⟩ := run_makeN s.size (by omega)
  obtain ⟨w1, hw1⟩ : ∃ w1, w1 = w.alloc (.cells arr 3) := ⟨_, rfl⟩
  have hb1 : Below w.heap.size w w1 := by rw [hw1]; exact (Below.refl _ w).alloc (Nat.le_refl _) _
  have h0 : IdTo w1 w.heap.size s.size 0 (byJ s) := ⟨arr, by rw [hw1]; exact heap_alloc_new w _, fun i hi => ⟨0, ha i hi, fun h => by omega⟩⟩
  clear ha
  go_enter Tryd.func31, Tryd.ntmps31
  go_wp2_with fail
  rw [← hw1]
  obtain ⟨b, hb⟩ : ∃ b, b = w.heap.size := ⟨_, rfl⟩
  have HB : Hid (b = w.heap.size) := hb
  rw [← hb] at h0 hb1 ⊢
  clear hw1 hmk hb
  go_loopw [10] (fun v wr => ∃ k : Nat, k ≤ s.size ∧ v = .int .i64 (k : Nat) ∧ IdTo wr b s.size k (byJ s) ∧ Below b w wr) (fun v _ => s.size - (intOf v).toNat)
  case atStart => exact ⟨0, Nat.zero_le _, rfl, h0, hb1⟩
  case round =>
    clear h0 hb1
    obtain ⟨k, hk, rfl, hI, hB⟩ := hrel
    by_cases hlt : k < s.size
    · have d : decide ((k : Int) < (s.size : Int)) = true := decide_eq_true (by omega)
      have hi : 0 ≤ (k : Int) ∧ (k : Int) < (s.size : Int) := by omega
      obtain ⟨v, c0, f0⟩ := hI.cell hlt
      have hI2 := hI.set
      rw [byJ_get hlt] at hI2
      have hB2 := hB.setCell (p := ⟨b, k, none⟩) (Nat.le_refl b) (.int .i64 ((s[k]).toNat : Int))
      have hwr : wrap64 ((s[k]).toNat : Int) = ((s[k]).toNat : Int) := by
        have := (s[k]).toNat_lt
        unfold wrap64
        omega
      go_wp2_with fail
      exact ⟨⟨k + 1, by omega, by simp, hI2, hB2⟩, by simp only [intOf]; omega⟩
    · obtain rfl : k = s.size := by omega
      have d : decide ((s.size : Int) < (s.size : Int)) = false := decide_eq_false (by omega)
      go_wp2_with fail
      go_ret
      rw [← HB.out]
      exact ⟨rfl, hI.all, hB⟩
/-- A list of ids as a function. -/
def getI (l : List Int) (i : Nat) : Int := (l[i]?).getD 0
theorem vw_getI (l : List Int) : vwJ (CH.inn0 l.length) l.length (getI l) = l := by
  have hall : ∀ n, CH.allG (CH.inn0 n) n 0 = List.range n := by
    intro n
    have h : ∀ m s, s + m ≤ n → CH.allG (CH.inn0 n) m s = List.range' s m := by
      intro m
      induction m with
      | zero => intro s _; rfl
      | succ m ih =>
        intro s hs
        rw [CH.allG, if_pos (show CH.inn0 n s = true from decide_eq_true (by omega)), ih (s + 1) (by omega), List.range'_succ]
    rw [h n 0 (by omega), List.range_eq_range']
  unfold vwJ
  rw [hall]
  apply List.ext_getElem?
  intro i
  rw [List.getElem?_map]
  by_cases hi : i < l.length
  · rw [List.getElem?_range hi, List.getElem?_eq_getElem hi]
    simp [getI, List.getElem?_eq_getElem hi]
  · rw [List.getElem?_eq_none (by simp; omega), List.getElem?_eq_none (by omega)]
    rfl
theorem eqI_nil_none (n c : Nat) (W : World) : (binOp BinOp.eql 34 (.slice none n c) (.slice none 0 0)).run Tryd.prog W = .ok (.bool true) W := by kernel_rfl
theorem eqI_nil_some (x : Addr) (n c : Nat) (W : World) : (binOp BinOp.eql 34 (.slice (some x) n c) (.slice none 0 0)).run Tryd.prog W = .ok (.bool false) W := by kernel_rfl
def encN (x : Int) : List Value := [.int .i64 x]
theorem encN_flat (l : List Int) : (l.flatMap encN) = l.map fun x => Value.int .i64 x := by
  induction l with
  | nil => rfl
  | cons x l ih => rw [List.flatMap_cons, ih]; rfl
/-- A row of ints of one's own. -/
def RowN (w : World) (base : Nat) (v : Value) (l : List Int) : Prop := w.ownsRow base 3 1 v l.length (l.flatMap encN)
theorem RowN.below {w w' : World} {base : Nat} {v : Value} {l : List Int} (h : RowN w base v l) (hb : Below w.heap.size w w') : RowN w' base v l :=
  World.ownsRow.kept h ⟨hb.os, hb.tape, hb.output, hb.size, fun k hk _ => hb.block k hk⟩ (row := none) (by cases v.ownBlock <;> simp)
/-- As the row's ids. -/
theorem RowN.ids {w : World} {base : Nat} {v : Value} {l : List Int} (h : RowN w base v l) : ∃ ia ic ib, v = .slice ia l.length ic ∧ (l.length = 0 ∨ (ia = some ⟨ib, 0, none⟩ ∧ IdAt w ib l.length (getI l) ∧ base ≤ ib)) := by
  rcases h.2 with ⟨rfl, h0⟩ | ⟨b, cap, cur, rfl, hb, hh, hn, hm, hcs, htk⟩
  · exact ⟨none, 0, 0, by rw [h0], .inl h0⟩
  · refine ⟨some ⟨b, 0, none⟩, cap, b, rfl, .inr ⟨rfl, ⟨cur, hh, fun i hi => ?_⟩, hb⟩⟩
    have h1 : cur.toList[i]? = (l.flatMap encN)[i]? := by
      rw [← htk, List.getElem?_take, if_pos (by omega)]
    rw [← Array.getElem?_toList, h1, encN_flat, List.getElem?_map]
    simp [getI, List.getElem?_eq_getElem hi]
set_option maxHeartbeats 1000000 in
theorem cloneN_any (a : Option Addr) (cap : Nat) (l : List Int) (w : World) (hlen : l.length ≤ 1099511627776) (h : CH.INS w a l) :
    Calls Tryd.prog 32 #[.slice a l.length cap] w fun e w' => ∃ v, e = .returned v ∧ RowN w' w.heap.size v l ∧ Below w.heap.size w w' := by
  cases a with
  | none =>
    have hl : l = [] := by
      rcases h with h | ⟨b, off, h, _⟩
      · exact h
      · cases h
    subst hl
    have he := eqI_nil_none 0 cap
    simp only [List.length_nil]
    go_enter Tryd.func32, Tryd.ntmps32
    go_wp2_with fail
    go_ret
    exact ⟨_, rfl, World.ownsRow_nil _ _ _ _, Below.refl _ _⟩
  | some x =>
    obtain ⟨i0, hi, hz0, hz1, hz2⟩ := HQ.info_parts infoN
    have he := eqI_nil_some x l.length cap
    have hb : Below w.heap.size w (w.alloc (.cells #[] 3)) := (Below.refl _ w).alloc (Nat.le_refl _) _
    have hown : (w.alloc (.cells #[] 3)).ownsRow w.heap.size 3 1 (.slice (some ⟨w.heap.size, 0, none⟩) 0 0) 0 [] :=
      ⟨rfl, .inr ⟨w.heap.size, 0, #[], rfl, Nat.le_refl _, heap_alloc_new w _, Nat.le_refl _, by simp [maxLen], rfl, rfl⟩⟩
    have hcs2 : ∀ j u, (l.flatMap encN)[j]? = some u → (w.alloc (.cells #[] 3)).cell? (x.add j) = some u := by
      intro j u hu
      rw [encN_flat, List.getElem?_map] at hu
      cases hl : l[j]? with
      | none => rw [hl] at hu; cases hu
      | some y =>
        rw [hl] at hu
        simp only [Option.map_some, Option.some.injEq] at hu
        rcases h with h | ⟨b, off, h, hc⟩
        · rw [h] at hl; simp at hl
        · cases h
          have := hc j y hl
          rw [cell_add, ← hu]
          exact HQ.cell_alloc_h this _
    obtain ⟨v', w', h1, h2, h3, h4⟩ := run_append_own (P := Tryd.prog) (w.alloc (.cells #[] 3)) w.heap.size 34 34 3 i0 _ 1 8 Tryd.underlying34 hi hz0 hz1 hz2 rfl (by decide) _ 0 [] hown x l.length cap (l.flatMap encN) (by rw [encN_flat]; simp) hcs2 (fun v hv => by
      rw [encN_flat] at hv
      obtain ⟨y, _, rfl⟩ := List.mem_map.1 hv
      rfl) (by unfold maxLen; omega) (by omega) (by simp)
    rw [Nat.zero_add, List.nil_append] at h2
    have hB : Below w.heap.size w w' := hb.grown h3 (by simp) (fun k hk => by
      have : k = w.heap.size := by simpa [Value.ownBlock] using hk.symm
      omega)
    clear hown h3 h4 hb h hcs2
    go_enter Tryd.func32, Tryd.ntmps32
    go_wp2_with (at_builtin; refine wpList_append_run rfl (.tmp 5) (.tmp 6) 34 34 rfl _ _ rfl rfl _ w' h1 ?_)
    go_ret
    exact ⟨_, rfl, h2, hB⟩
end Go.Proofs.YtjbdhakogbolkaaDoor
end
