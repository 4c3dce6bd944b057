import Derived.Test.YtjbdhakogbolkabDoorJ15
import Derived.RangeFuncNested
import Derived.RangeFuncBound
import Derived.RangeFuncCalls
import Derived.RangeFuncLeaves
import Derived.RangeFuncBox
import Derived.Shelf.Abstract
import Derived.Shelf.RegionOpen
import Derived.OwnWalkIn
import Derived.TacticsInMore
import Derived.LoopNIn
import Derived.LoopIn
import Derived.Maps.AppendAt
import Derived.Lib.QuietBelowIn
import Derived.Sort.QuietTacIn
import Derived.Sort.BigQuietIn
import Derived.Test.YtjbdhakogbolkabDoorJ14
import Derived.Test.YtjbdhakogbolkabDoorJ11
import Derived.Test.YtjbdhakogbolkabDoorJ10
section
/- bpe's newRow: its contract. -/
namespace Go.Proofs.YtjbdhakogbolkabDoor
open Go.RowKit Go.Joins Go.Sort
set_option linter.unusedVariables false
set_option linter.unusedSimpArgs false
set_option maxRecDepth 100000
theorem HQ.HeapAt.lower {w : World} {base base' g : Nat} {v : Value} {L : List HQ.El} (h : HQ.HeapAt w base g v L) (hb : base' ≤ base) : HQ.HeapAt w base' g v L :=
  ⟨Nat.le_trans hb h.low, h.at_, ⟨h.row.1, by
    rcases h.row.2 with h0 | ⟨b, cap, cur, e, hbb, rr⟩
    · exact .inl h0
    · exact .inr ⟨b, cap, cur, e, Nat.le_trans hb hbb, rr⟩⟩, h.ne⟩
/-- The first pairs. -/
def CovTo (ms : List Mg) (n : Nat) (s : StJ) (k : Nat) (L : List HQ.El) : Prop := ∀ l k' i, l < k → paJ ms s.1 n s.2 l = some (k', i) → ∃ y ∈ L, y.k = (k' : Nat) ∧ y.i = i ∧ y.p = (l : Nat) ∧ y.q = (CH.nxF s.1 n l : Nat)
set_option maxHeartbeats 4000000 in
theorem newRow_any (base mg ib lo : Nat) (ia : Option Addr) (ic n : Nat) (ids : Nat → Int) (ws : List ByteArray) (ms : List Mg) (A B C : List Sp) (w : World)
    (hn : n ≤ 1048576) (hids : n = 0 ∨ (ia = some ⟨ib, 0, none⟩ ∧ IdAt w ib n ids ∧ base ≤ ib)) (hM : ModelAt w lo mg ws ms A B C) (hI : ∀ k, k < n → W64 (ids k)) (hbase : base ≤ w.heap.size) :
    Calls Tryd.prog 19 #[.pointer (some ⟨mg, 0, none⟩), .slice ia n ic] w fun e w' => ∃ r ib' cg cb hg hv H, e = .returned (.pointer (some ⟨r, 0, none⟩)) ∧ RowAt w' base r mg ib' cg cb hg ia ic n hv (CH.inn0 n) ids (n : Nat) H ∧ base ≤ ib' ∧ (r < w'.heap.size ∧ ib' < w'.heap.size ∧ cg < w'.heap.size ∧ cb < w'.heap.size ∧ hg < w'.heap.size) ∧
      HPf HQ.keyE H 0 ∧ Cov ms n (CH.inn0 n, ids) H ∧ H.length ≤ n ∧ Below w.heap.size w w' := by
  have HN := CH.new_any (n : Nat) (n : Nat) n w (by rw [if_neg (by omega)]) (by rw [if_neg (by omega)]) hn
  have hnil : World.ownsRow w w.heap.size 93 4 (.slice none 0 0) 0 [] := World.ownsRow_nil _ _ _ _
  go_enter Tryd.func19, Tryd.ntmps19
  go_wp2_with fail
  refine HN.mono ?_
  rintro e w1 ⟨cg, cb, rfl, hcg, hcb, hC1, B1⟩
  clear HN
  obtain ⟨w2, hw2⟩ : ∃ w2, w2 = w1.alloc (.cells #[.pointer (some ⟨mg, 0, none⟩), .slice ia n ic, .pointer (some ⟨cg, 0, none⟩), .pointer none] 90) := ⟨_, rfl⟩
  have hb2 : Below w1.heap.size w1 w2 := by rw [hw2]; exact (Below.refl _ w1).alloc (Nat.le_refl _) _
  have hr2 : RwAt w2 w1.heap.size mg ia ic n cg (.pointer none) := by rw [hw2]; exact heap_alloc_new w1 _
  have hC2 := hC1.below hb2
  have hB2 := B1.trans (hb2.mono B1.size)
  have hs1 := B1.size
  have hs2 : w2.heap.size = w1.heap.size + 1 := by rw [hw2]; simp
  have hcl := CH.Ch.lt hC1
  go_wp2_with fail
  rw [← hw2]
  obtain ⟨r, hr⟩ : ∃ r, r = w1.heap.size := ⟨_, rfl⟩
  rw [← hr] at hr2 hs2 ⊢
  have hrc : r ≠ cg ∧ r ≠ cb ∧ cg < r ∧ cb < r := by omega
  clear hw2 hC1 hb2
  have HR : Hid (r = w1.heap.size) := hr
  have hwr : w.heap.size ≤ r := by omega
  clear hr hcl
  go_loopw [6, 19] (fun v6 v19 wr => ∃ (k : Nat) (L : List HQ.El) (lv : Value), k ≤ n ∧ v19 = .int .i64 (k : Nat) ∧ lv = v6 ∧ HQ.RowE wr w2.heap.size lv L ∧ L.length ≤ k ∧ CovTo ms n (CH.inn0 n, ids) k L ∧ Below w2.heap.size w2 wr) (fun _ v19 _ => n - (intOf v19).toNat)
  case atStart => exact ⟨0, [], _, Nat.zero_le _, rfl, rfl, World.ownsRow_nil _ _ _ _, Nat.le_refl _, fun l _ _ h => by omega, Below.refl _ _⟩
  case round =>
    obtain ⟨k, L, lv, hk, rfl, hlv, hL, hLk, hCv, hB⟩ := hrel
    subst hlv
    have hB3 := hB2.trans (hB.mono hB2.size)
    by_cases hlt : k < n
    · have d : decide ((k : Int) < (n : Int)) = true := decide_eq_true (by omega)
      have HP := pairAt_any r mg ib cg cb lo _ ia ic n (n : Nat) (CH.inn0 n) ids (k : Nat) ws ms A B C wr (hr2.below hB) (hids.imp_right fun h => ⟨h.1, h.2.1.below hB3⟩) (hC2.below hB) (hM.below hB3) hI
      have hyes := pairF_yes (ms := ms) (inn := CH.inn0 n) (n := n) (ids := ids) (at_ := (k : Nat))
      have hno := pairF_no (ms := ms) (inn := CH.inn0 n) (n := n) (ids := ids) (k := k)
      obtain ⟨⟨b, fk, fi, fp, fq⟩, hf⟩ : ∃ f, f = pairF ms (CH.inn0 n) n ids (k : Nat) := ⟨_, rfl⟩
      rw [← hf] at HP hyes hno
      unfold prV at HP
      cases b with
      | false =>
        have hpn := hno rfl
        clear hno hyes hf
        go_wp2_with fail
        refine HP.mono ?_
        rintro e w3 ⟨rfl, hb3⟩
        clear HP
        have hb4 : Below wr.heap.size wr (w3.alloc (.cells #[.int .i64 fk, .int .i64 fi, .int .i64 fp, .int .i64 fq] 93)) := hb3.alloc hb3.size _
        go_wp2_with fail
        refine ⟨⟨k + 1, L, _, by omega, by simp, rfl, hL.below hb4, by omega, fun l k' i hl h => ?_, hB.trans (hb4.mono hB.size)⟩, by simp only [intOf]; omega⟩
        by_cases e : l = k
        · rw [e, hpn] at h; cases h
        · exact hCv l k' i (by omega) h
      | true =>
        obtain ⟨k0, k1, i1, h1, hk0, hin, hxn, hpa, he⟩ := hyes rfl
        have : k0 = k := by omega
        subst this
        simp only [Prod.mk.injEq, true_and] at he
        obtain ⟨rfl, rfl, rfl, rfl⟩ := he
        obtain ⟨E, hE⟩ : ∃ E : HQ.El, E = ⟨(k1 : Int), fi, (k0 : Int), (CH.nxF (CH.inn0 n) n k0 : Nat), by omega⟩ := ⟨_, rfl⟩
        have hEE : E.k = (k1 : Int) ∧ E.i = fi ∧ E.p = (k0 : Int) ∧ E.q = ((CH.nxF (CH.inn0 n) n k0 : Nat) : Int) := by rw [hE]; exact ⟨rfl, rfl, rfl, rfl⟩
        obtain ⟨x, hx⟩ : ∃ x, x = CH.nxF (CH.inn0 n) n k0 := ⟨_, rfl⟩
        have hCv' : CovTo ms n (CH.inn0 n, ids) (k0 + 1) (L ++ [E]) := by
          intro l k' i hl h
          by_cases e : l = k0
          · subst e
            have h' : paJ ms (CH.inn0 n) n ids l = some (k', i) := h
            rw [hpa] at h'
            simp only [Option.some.injEq, Prod.mk.injEq] at h'
            obtain ⟨rfl, rfl⟩ := h'
            exact ⟨E, by simp, hEE⟩
          · obtain ⟨y, hy, g⟩ := hCv l k' i (by omega) h
            exact ⟨y, List.mem_append_left _ hy, g⟩
        rw [← hx] at HP hEE
        have HCV : Hid (CovTo ms n (CH.inn0 n, ids) (k0 + 1) (L ++ [E])) := hCv'
        clear hno hyes hf hpa hCv hCv' hE hx h1 hin hxn
        go_wp2_with fail
        refine HP.mono ?_
        rintro e w3 ⟨rfl, hb3⟩
        clear HP
        obtain ⟨w4, hw4⟩ : ∃ w4, w4 = w3.alloc (.cells #[.int .i64 (k1 : Nat), .int .i64 fi, .int .i64 (k0 : Nat), .int .i64 (x : Nat)] 93) := ⟨_, rfl⟩
        have hb4 : Below wr.heap.size wr w4 := by rw [hw4]; exact hb3.alloc hb3.size _
        have hp4 : w4.heap[w3.heap.size]? = some (.cells #[.int .i64 (k1 : Nat), .int .i64 fi, .int .i64 (k0 : Nat), .int .i64 (x : Nat)] 93 (0, 0)) := by rw [hw4]; exact heap_alloc_new w3 _
        obtain ⟨w5, hw5⟩ : ∃ w5, w5 = w4.alloc (.cells #[.int .i64 (k1 : Nat), .int .i64 fi, .int .i64 (k0 : Nat), .int .i64 (x : Nat)] 93) := ⟨_, rfl⟩
        have hb5 : Below w4.heap.size w4 w5 := by rw [hw5]; exact (Below.refl _ _).alloc (Nat.le_refl _) _
        have hb6 := hb4.trans (hb5.mono hb4.size)
        have hq5 : w5.heap[w4.heap.size]? = some (.cells (HQ.cellsE E).toArray 93 (0, 0)) := by
          rw [hw5]
          unfold HQ.cellsE
          rw [hEE.1, hEE.2.1, hEE.2.2.1, hEE.2.2.2]
          exact heap_alloc_new w4 _
        have hw2s := hB.size
        have hw6s := hb6.size
        obtain ⟨v', w6, hrun, hL6, hg6, hm6⟩ := HQ.run_push w5 w2.heap.size lv L E w4.heap.size (hL.below hb6) hq5 (by omega) (by omega)
        have hb7 : Below w2.heap.size w2 w6 := (hB.trans (hb6.mono hB.size)).grown hg6 (by omega) (fun q hq => (World.ownsRow.lt hL q hq).1)
        have p0 := cell_of_block hp4 0
        have p1 := cell_of_block hp4 1
        have p2 := cell_of_block hp4 2
        have p3 := cell_of_block hp4 3
        simp only [List.getElem?_toArray, List.getElem?_cons_zero, List.getElem?_cons_succ] at p0 p1 p2 p3
        rw [hw4] at p0 p1 p2 p3
        have hsz4 : w4.heap.size = w3.heap.size + 1 := by rw [hw4]; simp
        rw [hsz4] at hrun
        rw [hw5, hw4] at hrun
        clear hsz4
        clear hq5 hb5 hb6 hp4 hb4 hEE hg6 hm6 hb3 hw5 hw4 hL hw2s hw6s
        clear w5 w4
        go_wp2_with (at_builtin; refine wpList_append_run rfl (.tmp 29) (.tmp 31) 91 91 rfl _ _ rfl rfl _ w6 hrun ?_; clear hrun)
        exact ⟨⟨k0 + 1, L ++ [E], _, by omega, by simp, rfl, hL6, by simp; omega, HCV.out, hb7⟩, by simp only [intOf]; omega⟩
    · obtain rfl : k = n := by omega
      have d : decide ((k : Int) < (k : Int)) = false := decide_eq_false (by omega)
      obtain ⟨aa, nn, cc, rfl⟩ : ∃ aa nn cc, lv = .slice aa nn cc := by
        rcases ownsRow_forms hL with ⟨rfl, h0⟩ | ⟨b, q, rfl⟩
        · exact ⟨_, _, _, rfl⟩
        · exact ⟨_, _, _, rfl⟩
      have hnn := hL.len
      subst hnn
      have HO := HQ.of_any aa cc L wr (by omega) hL.sps
      unfold HQ.lessV at HO
      go_wp2_with fail
      refine HO.mono ?_
      rintro e w7 ⟨hg, hv, rfl, hA, hb7⟩
      clear HO
      have hr7 := hr2.below (hB.trans (hb7.mono hB.size))
      have c3 := cell_of_block hr7 3
      have f3 := unfrozen_of_block hr7 3
      simp only [List.getElem?_toArray, List.getElem?_cons_zero, List.getElem?_cons_succ] at c3
      have hs7 := hb7.size
      have hsw := hB.size
      have hgl := hA.low
      have hgt := hA.lt
      have hB8 := hB3.trans (hb7.mono hB3.size)
      have hC7 := hC2.below (hB.trans (hb7.mono hB.size))
      have hov := World.ownsRow.lt hA.row
      go_wp2_with fail
      go_ret
      have hk8 : ∀ j, j ≠ r → (w7.setCell ⟨r, 3, none⟩ (.pointer (some ⟨hg, 0, none⟩))).heap[j]? = w7.heap[j]? := fun j hj => Below.heap_setCell w7 ⟨r, 3, none⟩ _ j hj
      have hr8 : RwAt (w7.setCell ⟨r, 3, none⟩ (.pointer (some ⟨hg, 0, none⟩))) r mg ia ic k cg (.pointer (some ⟨hg, 0, none⟩)) := block_setCell (i := 3) hr7 _
      have hne7 : ∀ j, j < wr.heap.size → hv.ownBlock ≠ some j := fun j hj e => by
        have := hov j e
        omega
      have hA8 : HQ.HeapAt (w7.setCell ⟨r, 3, none⟩ (.pointer (some ⟨hg, 0, none⟩))) wr.heap.size hg hv (ofF HQ.keyE L) :=
        ⟨hA.low, (hk8 hg (by omega)).trans hA.at_, hA.row.grown (row := some r) ⟨rfl, rfl, rfl, by simp, fun j _ hj => hk8 j (fun e => hj (by rw [e]))⟩ (.inr (hne7 r (by omega))), hA.ne⟩
      have hcl : cg < wr.heap.size ∧ cb < wr.heap.size := by omega
      have hsz : (w7.setCell ⟨r, 3, none⟩ (.pointer (some ⟨hg, 0, none⟩))).heap.size = w7.heap.size := by simp
      rcases hids with h0 | ⟨h1, h2, h3⟩
      · refine ⟨r, r, cg, cb, hg, hv, ofF HQ.keyE L, rfl, ⟨hr8, .inl h0, hC7.kept (hk8 cg (by omega)) (hk8 cb (by omega)), hA8.lower (by omega), ⟨by omega, by omega, by omega⟩, by omega, by omega, by omega, by omega, by omega, hne7 r (by omega), hne7 cg hcl.1, hne7 cb hcl.2⟩, by omega, by rw [hsz]; omega, ofF_heap HQ.keyE L, fun l k' i h => ?_, by rw [ofF_length]; exact hLk, ?_⟩
        · obtain ⟨y, hy, g⟩ := hCv l k' i (paJ_some h).1 h
          exact ⟨y, (ofF_perm HQ.keyE L).mem_iff.2 hy, g⟩
        · exact hB8.setCell (p := ⟨r, 3, none⟩) hwr _
      · have hil := h2.lt
        refine ⟨r, ib, cg, cb, hg, hv, ofF HQ.keyE L, rfl, ⟨hr8, .inr ⟨h1, (h2.below hB8).kept (hk8 ib (by omega)), h3, by omega, by omega, by omega, by omega, hne7 ib (by omega)⟩, hC7.kept (hk8 cg (by omega)) (hk8 cb (by omega)), hA8.lower (by omega), ⟨by omega, by omega, by omega⟩, by omega, by omega, by omega, by omega, by omega, hne7 r (by omega), hne7 cg hcl.1, hne7 cb hcl.2⟩, h3, by rw [hsz]; omega, ofF_heap HQ.keyE L, fun l k' i h => ?_, by rw [ofF_length]; exact hLk, ?_⟩
        · obtain ⟨y, hy, g⟩ := hCv l k' i (paJ_some h).1 h
          exact ⟨y, (ofF_perm HQ.keyE L).mem_iff.2 hy, g⟩
        · exact hB8.setCell (p := ⟨r, 3, none⟩) hwr _
end Go.Proofs.YtjbdhakogbolkabDoor
end
section
/- ChainBoth: the walk. -/
namespace Go.Proofs.YtjbdhakogbolkabDoor.CH
open Go.RowKit Go.Joins Go.Sort
set_option linter.unusedVariables false
set_option linter.unusedSimpArgs false
set_option maxRecDepth 100000
theorem ret_i64 {a b : Int} (h : a = b) : Ending.returned (.int .i64 a) = .returned (.int .i64 b) := by rw [h]
theorem INS.at_ {w : World} {a : Option Addr} {l : List Int} (h : INS w a l) {i : Nat} {r : Int} (hr : l[i]? = some r) : ∃ b off, a = some ⟨b, off, none⟩ ∧ w.cell? ⟨b, off + i, none⟩ = some (.int .i64 r) := by
  rcases h with rfl | ⟨b, off, rfl, hc⟩
  · simp at hr
  · exact ⟨b, off, rfl, hc i r hr⟩
theorem INS.below {w w' : World} {a : Option Addr} {l : List Int} (h : INS w a l) (hb : Below w.heap.size w w') : INS w' a l := by
  rcases h with h | ⟨b, off, rfl, hc⟩
  · exact .inl h
  · exact .inr ⟨b, off, rfl, fun i r hr => (hb.cell (World.block_lt_of_cell? w _ (hc i r hr))).trans (hc i r hr)⟩
theorem clamp_mid {i : Nat} (h : i ≤ 200) : (if ((i : Nat) : Int) < 0 then 0 else ((i : Nat) : Int)) = (i : Nat) ∧ (if (1048576 : Int) < (i : Nat) then 1048576 else ((i : Nat) : Int)) = (i : Nat) := by
  constructor
  · rw [if_neg (by omega)]
  · rw [if_neg (by omega)]
/-- Behind a number that was cut out its neighbours stand side by side. -/
theorem cut_next {inn : Nat → Bool} {n k : Nat} (hk : k < n) (hin : inn k = true) (h : 0 ≤ prevA inn n (k : Nat)) : nextA (cutP inn k) n (prevA inn n (k : Nat)) = nextA inn n (k : Nat) := by
  have e1 : prevA inn n (k : Nat) = numF n (dnG inn n k) := by unfold prevA; rw [has_in hk hin]; rfl
  have e2 : nextA inn n (k : Nat) = numF n (nxF inn n k) := by unfold nextA; rw [has_in hk hin]; rfl
  rw [e1] at h
  rw [e1, e2]
  unfold numF at h
  have hle := dn_le (inn := inn) (n := n) (i := k) (by omega)
  split at h
  · omega
  · rename_i hne
    have hlt : dnG inn n k < n := by omega
    have hi := dn_in (inn := inn) (n := n) (i := k) (by omega) hlt
    have hk2 : dnG inn n k ≠ k := by rcases dn_spec inn n k with ⟨h1, _⟩ | ⟨h1, _⟩ <;> omega
    have hc : cutP inn k (dnG inn n k) = true := by unfold cutP; rw [if_neg hk2]; exact hi
    rw [show numF n (dnG inn n k) = ((dnG inn n k : Nat) : Int) from if_neg hne]
    unfold nextA
    rw [has_in hlt hc, if_pos rfl, Int.toNat_natCast, nx_cut hk hin (by omega) (.inr hi) hk2, if_pos rfl]
theorem cut_prev {inn : Nat → Bool} {n k : Nat} (hk : k < n) (hin : inn k = true) (h : 0 ≤ nextA inn n (k : Nat)) : prevA (cutP inn k) n (nextA inn n (k : Nat)) = prevA inn n (k : Nat) := by
  have e1 : prevA inn n (k : Nat) = numF n (dnG inn n k) := by unfold prevA; rw [has_in hk hin]; rfl
  have e2 : nextA inn n (k : Nat) = numF n (nxF inn n k) := by unfold nextA; rw [has_in hk hin]; rfl
  rw [e2] at h
  rw [e1, e2]
  unfold numF at h
  have hle := nx_le (inn := inn) (n := n) (i := k) (by omega)
  split at h
  · omega
  · rename_i hne
    have hlt : nxF inn n k < n := by omega
    have hi := nx_in (inn := inn) (n := n) (i := k) (by omega) hlt
    have hk2 : nxF inn n k ≠ k := by
      have := (up_spec inn (n - (k + 1)) (k + 1)).1
      unfold nxF
      rw [if_neg (by omega)]
      omega
    have hc : cutP inn k (nxF inn n k) = true := by unfold cutP; rw [if_neg hk2]; exact hi
    rw [show numF n (nxF inn n k) = ((nxF inn n k : Nat) : Int) from if_neg hne]
    unfold prevA
    rw [has_in hlt hc, if_pos rfl, Int.toNat_natCast, dn_cut hk hin (by omega) (.inr hi) hk2, if_pos rfl]
theorem num_ge (n i : Nat) : -1 ≤ numF n (i : Nat) := by unfold numF; split <;> omega
theorem has_no {inn : Nat → Bool} {n k : Nat} (hk : k < n) (h : hasB inn n (k : Nat) = false) : inn k = false := by
  cases hi : inn k with
  | false => rfl
  | true => rw [has_in hk hi] at h; cases h
theorem has_yes {inn : Nat → Bool} {n k : Nat} (h : hasB inn n (k : Nat) = true) : inn k = true := by
  simp only [hasB, Bool.and_eq_true] at h
  exact h.2
end Go.Proofs.YtjbdhakogbolkabDoor.CH
end
section
/- chain.All: its iterator's contract. -/
namespace Go.Proofs.YtjbdhakogbolkabDoor.CH
open Go.RowKit Go.Shelf
open Go.Joins Go.Sort
attribute [local go_sem] Oper.semAt_some
set_option linter.unusedVariables false
set_option linter.unusedSimpArgs false
/-- What a round keeps: the iterator's box and the chain's two blocks. -/
def KpC (B g b : Nat) (X Y : World) : Prop := X.heap.size ≤ Y.heap.size ∧ Y.heap[B]? = X.heap[B]? ∧ Y.heap[g]? = X.heap[g]? ∧ Y.heap[b]? = X.heap[b]?
theorem KpC.refl (B g b : Nat) (X : World) : KpC B g b X X := ⟨Nat.le_refl _, rfl, rfl, rfl⟩
theorem KpC.trans {B g b : Nat} {X Y Z : World} (h : KpC B g b X Y) (k : KpC B g b Y Z) : KpC B g b X Z :=
  ⟨Nat.le_trans h.1 k.1, k.2.1.trans h.2.1, k.2.2.1.trans h.2.2.1, k.2.2.2.trans h.2.2.2⟩
theorem KpC.of_below {B g b : Nat} {X Y : World} (h : Below X.heap.size X Y) (h1 : B < X.heap.size) (h2 : g < X.heap.size) (h3 : b < X.heap.size) : KpC B g b X Y :=
  ⟨h.size, h.block _ h1, h.block _ h2, h.block _ h3⟩
theorem KpC.putObj {B g b : Nat} {w : World} (h1 : B < w.heap.size) (h2 : g < w.heap.size) (h3 : b < w.heap.size) (W : World) (l : Nat) (o o' : Obj) (hl : w.heap.size ≤ l) (h : W.heap[l]? = some o) (ho : o.isCells = false) (_hw : o.isWalk = false) : KpC B g b W (W.putObj l o') :=
  ⟨by simp, World.putObj_heap_other (by omega), World.putObj_heap_other (by omega), World.putObj_heap_other (by omega)⟩
theorem nx_up {inn : Nat → Bool} {n x : Nat} (hx : x < n) : nxF inn n x = upG inn (n - (x + 1)) (x + 1) := by unfold nxF; rw [if_neg (by omega)]
set_option maxRecDepth 100000 in
set_option maxHeartbeats 2000000 in
theorem all1_in (n0 : Nat) (hn0 : 1 ≤ n0) (lp B g b n N : Nat) (inn : Nat → Bool) (cnt : Int) (J Jx : List Nat → World → Prop)
    (hN : (allG inn n 0).length ≤ N)
    (hJ : ∀ pre X Y, J pre X → Below X.heap.size X Y → J pre Y)
    (hY : ∀ pre x W, J pre W → pre.length < N → YieldAt Fence.wide (n0 - 1) Tryd.prog lp #[.int .i64 (x : Nat)] W fun e W' =>
      (e = .returned (.bool true) ∧ J (pre ++ [x]) W' ∧ KpC B g b W W') ∨ (e = .returned (.bool false) ∧ Jx (pre ++ [x]) W'))
    (W : World) (hB : W.heap[B]? = some (.cells #[.pointer (some ⟨g, 0, none⟩)] 86 (0, 0))) (hC : Ch W g b n inn cnt) (h0 : J [] W) :
    CallsIn Fence.wide n0 Tryd.prog 72 #[.func (.yield lp) #[] #[], .pointer (some ⟨B, 0, none⟩)] W fun e W' => (∃ v, e = .returned v) ∧
      ((∃ ys, ys = allG inn n 0 ∧ J ys W') ∨ (∃ pre, pre <+: allG inn n 0 ∧ Jx pre W')) := by
  have HK := fun d os => (knot_any g b n cnt (grow (redrawn W d) os) (hC.own.below (below_regrown W d os)) hC.le).mono (R' := fun e w' => e = .returned (.int .i64 (n : Nat)) ∧ Below (grow (redrawn W d) os).heap.size (grow (redrawn W d) os) w') (by rintro e w' ⟨rfl, rfl⟩; exact ⟨rfl, Below.refl _ _⟩)
  obtain ⟨p, q, hL, hLk⟩ := hC.links
  have q0 := hLk.nx n (Nat.le_refl n) (.inl rfl)
  rw [show nxF inn n n = upG inn (n - 0) 0 by unfold nxF; rw [if_pos rfl]; rfl] at q0
  have c0 := (hL.at' (Nat.le_refl n)).2
  rw [q0] at c0
  have ho := hC.own
  unfold ChAt at ho
  have k0 := cell_regrown c0
  have k1 := cell_regrown ((cell_of_block ho (i := 0)).trans rfl)
  have k2 := cell_regrown ((cell_of_block hB (i := 0)).trans rfl)
  have in0 : 0 ≤ (n : Int) ∧ (n : Int) < (n : Int) + 1 := by omega
  have HB : Hid (W.heap[B]? = some (.cells #[.pointer (some ⟨g, 0, none⟩)] 86 (0, 0))) := hB
  clear q0 c0 hL hLk ho hB
  refine callsIn_of_wp Tryd.func72 rfl trivial ?_ rfl
  simp only [Tryd.ntmps72, List.size_toArray, List.length_cons, List.length_nil, Nat.reduceAdd, Nat.reduceSub, Array.replicate_succ, Array.replicate_zero, List.push_toArray, List.append_toArray, List.nil_append, List.cons_append]
  gi_wp2_with fail
  refine wpIn_region_quiet_below rfl (by kernel_rfl) (by kernel_rfl) ?_
  repeat (gi_big_quiet_step (fail))
  refine wpQuietIn_step (fun _ _ _ _ => trivial) (fun K hK => ?_)
  go_simp
  apply Exists.intro
  refine ⟨fun _ => ?_, hK _ ?_⟩
  · exact CallsIn.regrown_of (callsIn_wide.2 (HK _ _))
  clear hK K
  repeat (gi_big_quiet_step (fail))
  refine wpQuietIn_nil ?_
  intro W1 hw'
  have hb1 : Below W.heap.size W W1 := by
    obtain ⟨⟨dq, osq⟩, rfl⟩ := hw'
    exact below_regrown _ _ _
  clear hw' k0 k1 k2 HK
  have hBl : B < W.heap.size := (Array.getElem?_eq_some_iff.1 HB.out).1
  have hC1 := hC.below hb1
  have hB1 := (hb1.block B hBl).trans HB.out
  have hJ1 := hJ _ _ _ h0 hb1
  clear hb1 hC h0 HB
  gi_wp2_with fail
  gi_loopw [3] (fun i wr => ∃ (s : Nat) (pre : List Nat), s ≤ n ∧ i = .int .i64 (upG inn (n - s) s : Nat) ∧ allG inn n 0 = pre ++ allG inn (n - s) s ∧ J pre wr ∧ wr.heap[B]? = W1.heap[B]? ∧ Ch wr g b n inn cnt) (fun i _ => n - (intOf i).toNat)
  case atStart => exact ⟨0, [], Nat.zero_le _, rfl, rfl, hJ1, rfl, hC1⟩
  case round =>
    clear hJ1 hC1
    obtain ⟨s, pre, hs, rfl, he, hJs, hnx, hC⟩ := hrel
    have hB2 := hnx.trans hB1
    have HNX : Hid (wr.heap[B]? = W1.heap[B]?) := hnx
    have HK := knot_any g b n cnt wr hC.own hC.le
    have hup := up_spec inn (n - s) s
    rw [show s + (n - s) = n by omega] at hup
    have hall := all_up inn (n - s) s
    rw [show s + (n - s) = n by omega] at hall
    obtain ⟨x, hx⟩ : ∃ x, x = upG inn (n - s) s := ⟨_, rfl⟩
    rw [← hx] at hup hall ⊢
    have cB := (cell_of_block hB2 (i := 0)).trans rfl
    have HB2 : Hid (wr.heap[B]? = some (.cells #[.pointer (some ⟨g, 0, none⟩)] 86 (0, 0))) := hB2
    clear hx hnx hB2
    by_cases hlt : x < n
    · have hin := hup.2.2.1 hlt
      rw [if_pos hlt] at hall
      have HE : Hid (allG inn n 0 = (pre ++ [x]) ++ allG inn (n - (x + 1)) (x + 1)) := by
        show allG inn n 0 = _
        rw [he, hall, List.append_assoc]
        rfl
      have hp : pre.length < N := by
        have := congrArg List.length HE.out
        simp at this
        omega
      have dne : ((x : Int) != (n : Int)) = true := by simp; omega
      have HH := has_any g b n inn cnt (x : Nat) wr hC
      rw [has_in hlt hin] at HH
      have hxs := hup.1
      clear he hall hup
      gi_wp2_with fail
      refine ⟨trivial, (callsIn_wide.2 HK).mono ?_⟩
      rintro e w1 ⟨rfl, he⟩
      obtain rfl := he.symm
      clear HK
      gi_wp2_with fail
      refine ⟨trivial, (callsIn_wide.2 HH).mono ?_⟩
      rintro e w1 ⟨rfl, he⟩
      obtain rfl := he.symm
      clear HH
      gi_wp2_with fail
      obtain ⟨fn, tmps, assign, body, hy, hR⟩ := hY pre x wr hJs hp
      rw [hy]
      gi_wp2
      refine hR.mono ?_
      have hBlt := hC.lt
      rintro e W5 (⟨rfl, hJ5, hk5⟩ | ⟨rfl, hJx5⟩)
      · have hB5 := hk5.2.1.trans HB2.out
        have hC5 := hC.kept hk5.2.2.1 hk5.2.2.2
        obtain ⟨p, q, hL, hLk⟩ := hC5.links
        have q0 := hLk.nx x (by omega) (.inr hin)
        rw [nx_up hlt] at q0
        have c0 := (hL.at' (i := x) (by omega)).2
        rw [q0] at c0
        have ho := hC5.own
        unfold ChAt at ho
        have k1 := ((cell_of_block ho (i := 0)).trans rfl)
        have k2 := (cell_of_block hB5 (i := 0)).trans rfl
        have in0 : 0 ≤ (x : Int) ∧ (x : Int) < (n : Int) + 1 := by omega
        have hup2 := (up_spec inn (n - (x + 1)) (x + 1)).1
        clear q0 hL hLk ho hB5
        gi_wp2_with fail
        go_roundw
        case rel => exact ⟨x + 1, _, by omega, rfl, HE.out, hJ5, hk5.2.1.trans HNX.out, hC5⟩
        case measure => simp [intOf]; omega
      · gi_wp2
        refine bodyPost_ret (results_none rfl _ _ _) rfl ?_
        exact ⟨⟨_, rfl⟩, .inr ⟨_, ⟨_, HE.out.symm⟩, hJx5⟩⟩
    · obtain rfl : x = n := by omega
      rw [if_neg hlt, ] at hall
      rw [hall, List.append_nil] at he
      have HE : Hid (allG inn x 0 = pre) := he
      have dne : ((x : Int) != (x : Int)) = false := by simp
      clear he hall hup hlt
      gi_wp2_with fail
      refine ⟨trivial, (callsIn_wide.2 HK).mono ?_⟩
      rintro e w1 ⟨rfl, he⟩
      obtain rfl := he.symm
      gi_wp2_with fail
      go_end0
      exact ⟨⟨_, rfl⟩, .inl ⟨_, HE.out.symm, hJs⟩⟩
/-- chain.All: the chain is boxed. -/
theorem all_in (n0 : Nat) (g : Nat) (w : World) :
    CallsIn Fence.wide n0 Tryd.prog 55 #[.pointer (some ⟨g, 0, none⟩)] w fun e w' => e = .returned (.func (.func 72) #[] #[.pointer (some ⟨w.heap.size, 0, none⟩)]) ∧ w' = w.alloc (.cells #[.pointer (some ⟨g, 0, none⟩)] 86) := by
  refine callsIn_of_wp Tryd.func55 rfl trivial ?_ rfl
  simp only [Tryd.ntmps55, List.size_toArray, List.length_cons, List.length_nil, Nat.reduceAdd, Nat.reduceSub, Array.replicate_succ, Array.replicate_zero, List.push_toArray, List.append_toArray, List.nil_append, List.cons_append]
  gi_wp2
  go_ret
  exact ⟨rfl, rfl⟩
theorem all_stops (n0 : Nat) (hn0 : 1 ≤ n0) (B g b n : Nat) (inn : Nat → Bool) (cnt : Int) (w : World) (hB : w.heap[B]? = some (.cells #[.pointer (some ⟨g, 0, none⟩)] 86 (0, 0))) (hC : Ch w g b n inn cnt) :
    SeqStopsK Fence.wide n0 Tryd.prog 72 #[.pointer (some ⟨B, 0, none⟩)] (fun x : Nat => #[.int .i64 (x : Nat)]) (KpC B g b) (fun ys => ys = allG inn n 0) (fun pre => pre <+: allG inn n 0) (allG inn n 0).length w := fun l J Jx W hW hJ _ hY h0 =>
  all1_in n0 hn0 l B g b n _ inn cnt J Jx (Nat.le_refl _)
    (fun pre X Y hA hAB => hJ pre X Y none hA ⟨hAB.os, hAB.tape, hAB.output, hAB.size, fun k hk _ => hAB.block k hk⟩ (fun r e => by cases e))
    hY W ((hW.block B (Array.getElem?_eq_some_iff.1 hB).1).trans hB) (hC.below hW) h0
end Go.Proofs.YtjbdhakogbolkabDoor.CH
end
section
/- chain.All: its iterator's contract, telling each number that it stands there. -/
namespace Go.Proofs.YtjbdhakogbolkabDoor.CH
open Go.RowKit Go.Shelf
open Go.Joins Go.Sort
attribute [local go_sem] Oper.semAt_some
set_option linter.unusedVariables false
set_option linter.unusedSimpArgs false
set_option maxRecDepth 100000 in
set_option maxHeartbeats 2000000 in
theorem all2_in (n0 : Nat) (hn0 : 1 ≤ n0) (lp B g b n N : Nat) (inn : Nat → Bool) (cnt : Int) (J Jx : List Nat → World → Prop)
    (hN : (allG inn n 0).length ≤ N)
    (hJ : ∀ pre X Y, J pre X → Below X.heap.size X Y → J pre Y)
    (hY : ∀ pre x W, J pre W → (pre ++ [x]) <+: allG inn n 0 → YieldAt Fence.wide (n0 - 1) Tryd.prog lp #[.int .i64 (x : Nat)] W fun e W' =>
      (e = .returned (.bool true) ∧ J (pre ++ [x]) W' ∧ KpC B g b W W') ∨ (e = .returned (.bool false) ∧ Jx (pre ++ [x]) W'))
    (W : World) (hB : W.heap[B]? = some (.cells #[.pointer (some ⟨g, 0, none⟩)] 86 (0, 0))) (hC : Ch W g b n inn cnt) (h0 : J [] W) :
    CallsIn Fence.wide n0 Tryd.prog 72 #[.func (.yield lp) #[] #[], .pointer (some ⟨B, 0, none⟩)] W fun e W' => (∃ v, e = .returned v) ∧
      ((∃ ys, ys = allG inn n 0 ∧ J ys W') ∨ (∃ pre, pre <+: allG inn n 0 ∧ Jx pre W')) := by
  have HK := fun d os => (knot_any g b n cnt (grow (redrawn W d) os) (hC.own.below (below_regrown W d os)) hC.le).mono (R' := fun e w' => e = .returned (.int .i64 (n : Nat)) ∧ Below (grow (redrawn W d) os).heap.size (grow (redrawn W d) os) w') (by rintro e w' ⟨rfl, rfl⟩; exact ⟨rfl, Below.refl _ _⟩)
  obtain ⟨p, q, hL, hLk⟩ := hC.links
  have q0 := hLk.nx n (Nat.le_refl n) (.inl rfl)
  rw [show nxF inn n n = upG inn (n - 0) 0 by unfold nxF; rw [if_pos rfl]; rfl] at q0
  have c0 := (hL.at' (Nat.le_refl n)).2
  rw [q0] at c0
  have ho := hC.own
  unfold ChAt at ho
  have k0 := cell_regrown c0
  have k1 := cell_regrown ((cell_of_block ho (i := 0)).trans rfl)
  have k2 := cell_regrown ((cell_of_block hB (i := 0)).trans rfl)
  have in0 : 0 ≤ (n : Int) ∧ (n : Int) < (n : Int) + 1 := by omega
  have HB : Hid (W.heap[B]? = some (.cells #[.pointer (some ⟨g, 0, none⟩)] 86 (0, 0))) := hB
  clear q0 c0 hL hLk ho hB
  refine callsIn_of_wp Tryd.func72 rfl trivial ?_ rfl
  simp only [Tryd.ntmps72, List.size_toArray, List.length_cons, List.length_nil, Nat.reduceAdd, Nat.reduceSub, Array.replicate_succ, Array.replicate_zero, List.push_toArray, List.append_toArray, List.nil_append, List.cons_append]
  gi_wp2_with fail
  refine wpIn_region_quiet_below rfl (by kernel_rfl) (by kernel_rfl) ?_
  repeat (gi_big_quiet_step (fail))
  refine wpQuietIn_step (fun _ _ _ _ => trivial) (fun K hK => ?_)
  go_simp
  apply Exists.intro
  refine ⟨fun _ => ?_, hK _ ?_⟩
  · exact CallsIn.regrown_of (callsIn_wide.2 (HK _ _))
  clear hK K
  repeat (gi_big_quiet_step (fail))
  refine wpQuietIn_nil ?_
  intro W1 hw'
  have hb1 : Below W.heap.size W W1 := by
    obtain ⟨⟨dq, osq⟩, rfl⟩ := hw'
    exact below_regrown _ _ _
  clear hw' k0 k1 k2 HK
  have hBl : B < W.heap.size := (Array.getElem?_eq_some_iff.1 HB.out).1
  have hC1 := hC.below hb1
  have hB1 := (hb1.block B hBl).trans HB.out
  have hJ1 := hJ _ _ _ h0 hb1
  clear hb1 hC h0 HB
  gi_wp2_with fail
  gi_loopw [3] (fun i wr => ∃ (s : Nat) (pre : List Nat), s ≤ n ∧ i = .int .i64 (upG inn (n - s) s : Nat) ∧ allG inn n 0 = pre ++ allG inn (n - s) s ∧ J pre wr ∧ wr.heap[B]? = W1.heap[B]? ∧ Ch wr g b n inn cnt) (fun i _ => n - (intOf i).toNat)
  case atStart => exact ⟨0, [], Nat.zero_le _, rfl, rfl, hJ1, rfl, hC1⟩
  case round =>
    clear hJ1 hC1
    obtain ⟨s, pre, hs, rfl, he, hJs, hnx, hC⟩ := hrel
    have hB2 := hnx.trans hB1
    have HNX : Hid (wr.heap[B]? = W1.heap[B]?) := hnx
    have HK := knot_any g b n cnt wr hC.own hC.le
    have hup := up_spec inn (n - s) s
    rw [show s + (n - s) = n by omega] at hup
    have hall := all_up inn (n - s) s
    rw [show s + (n - s) = n by omega] at hall
    obtain ⟨x, hx⟩ : ∃ x, x = upG inn (n - s) s := ⟨_, rfl⟩
    rw [← hx] at hup hall ⊢
    have cB := (cell_of_block hB2 (i := 0)).trans rfl
    have HB2 : Hid (wr.heap[B]? = some (.cells #[.pointer (some ⟨g, 0, none⟩)] 86 (0, 0))) := hB2
    clear hx hnx hB2
    by_cases hlt : x < n
    · have hin := hup.2.2.1 hlt
      rw [if_pos hlt] at hall
      have HE : Hid (allG inn n 0 = (pre ++ [x]) ++ allG inn (n - (x + 1)) (x + 1)) := by
        show allG inn n 0 = _
        rw [he, hall, List.append_assoc]
        rfl
      have hp : pre.length < N := by
        have := congrArg List.length HE.out
        simp at this
        omega
      have dne : ((x : Int) != (n : Int)) = true := by simp; omega
      have HH := has_any g b n inn cnt (x : Nat) wr hC
      rw [has_in hlt hin] at HH
      have hxs := hup.1
      clear he hall hup
      gi_wp2_with fail
      refine ⟨trivial, (callsIn_wide.2 HK).mono ?_⟩
      rintro e w1 ⟨rfl, he⟩
      obtain rfl := he.symm
      clear HK
      gi_wp2_with fail
      refine ⟨trivial, (callsIn_wide.2 HH).mono ?_⟩
      rintro e w1 ⟨rfl, he⟩
      obtain rfl := he.symm
      clear HH
      gi_wp2_with fail
      obtain ⟨fn, tmps, assign, body, hy, hR⟩ := hY pre x wr hJs ⟨_, HE.out.symm⟩
      rw [hy]
      gi_wp2
      refine hR.mono ?_
      have hBlt := hC.lt
      rintro e W5 (⟨rfl, hJ5, hk5⟩ | ⟨rfl, hJx5⟩)
      · have hB5 := hk5.2.1.trans HB2.out
        have hC5 := hC.kept hk5.2.2.1 hk5.2.2.2
        obtain ⟨p, q, hL, hLk⟩ := hC5.links
        have q0 := hLk.nx x (by omega) (.inr hin)
        rw [nx_up hlt] at q0
        have c0 := (hL.at' (i := x) (by omega)).2
        rw [q0] at c0
        have ho := hC5.own
        unfold ChAt at ho
        have k1 := ((cell_of_block ho (i := 0)).trans rfl)
        have k2 := (cell_of_block hB5 (i := 0)).trans rfl
        have in0 : 0 ≤ (x : Int) ∧ (x : Int) < (n : Int) + 1 := by omega
        have hup2 := (up_spec inn (n - (x + 1)) (x + 1)).1
        clear q0 hL hLk ho hB5
        gi_wp2_with fail
        go_roundw
        case rel => exact ⟨x + 1, _, by omega, rfl, HE.out, hJ5, hk5.2.1.trans HNX.out, hC5⟩
        case measure => simp [intOf]; omega
      · gi_wp2
        refine bodyPost_ret (results_none rfl _ _ _) rfl ?_
        exact ⟨⟨_, rfl⟩, .inr ⟨_, ⟨_, HE.out.symm⟩, hJx5⟩⟩
    · obtain rfl : x = n := by omega
      rw [if_neg hlt, ] at hall
      rw [hall, List.append_nil] at he
      have HE : Hid (allG inn x 0 = pre) := he
      have dne : ((x : Int) != (x : Int)) = false := by simp
      clear he hall hup hlt
      gi_wp2_with fail
      refine ⟨trivial, (callsIn_wide.2 HK).mono ?_⟩
      rintro e w1 ⟨rfl, he⟩
      obtain rfl := he.symm
      gi_wp2_with fail
      go_end0
      exact ⟨⟨_, rfl⟩, .inl ⟨_, HE.out.symm, hJs⟩⟩
theorem all_G (n0 : Nat) (hn0 : 1 ≤ n0) (B g b n : Nat) (inn : Nat → Bool) (cnt : Int) (w : World) (hB : w.heap[B]? = some (.cells #[.pointer (some ⟨g, 0, none⟩)] 86 (0, 0))) (hC : Ch w g b n inn cnt) :
    SeqG Fence.wide n0 Tryd.prog 72 #[.pointer (some ⟨B, 0, none⟩)] (fun x : Nat => #[.int .i64 (x : Nat)]) (fun _ _ A A' => Below A.heap.size A A') (fun _ => KpC B g b) (fun pre x => (pre ++ [x]) <+: allG inn n 0) (fun ys _ => ys = allG inn n 0) (fun pre => pre <+: allG inn n 0) w := by
  intro l J Jx W hW hJ hJx hY h0
  refine (all2_in n0 hn0 l B g b n _ inn cnt (fun pre X => J W.heap.size pre X ∧ W.heap.size ≤ X.heap.size) (Jx W.heap.size) (Nat.le_refl _)
    (fun pre X Y hA hAB => ⟨hJ _ _ _ _ hA.1 hAB, Nat.le_trans hA.2 hAB.size⟩)
    (fun pre x W1 hj hp => (hY W.heap.size pre x W1 (Nat.le_refl _) hj.2 hj.1 hp).mono ?_) W ((hW.block B (Array.getElem?_eq_some_iff.1 hB).1).trans hB) (hC.below hW) ⟨h0 _ (Nat.le_refl _), Nat.le_refl _⟩).mono ?_
  · rintro e W' ⟨_, ⟨rfl, h1, h2⟩ | ⟨rfl, h1⟩⟩
    · exact .inl ⟨rfl, ⟨h1, Nat.le_trans hj.2 h2.1⟩, h2⟩
    · exact .inr ⟨rfl, h1⟩
  · rintro e W' ⟨hv, ⟨ys, h1, h2⟩ | ⟨pre, h1, h2⟩⟩
    · exact ⟨hv, _, Nat.le_refl _, .inl ⟨ys, h1, h2.1⟩⟩
    · exact ⟨hv, _, Nat.le_refl _, .inr ⟨pre, h1, h2⟩⟩
end Go.Proofs.YtjbdhakogbolkabDoor.CH
end
section
/- A drawn region in a round of a wide fence: the laws of the plain walk serve it, where it defers nothing. The proof goes by the library's own: an operation that defers nothing is carried out in a round as everywhere. -/
namespace Go.Proofs.YtjbdhakogbolkabDoor
open Go Go.RowKit
theorem rows_wide {n : Nat} {P : Program} {row : String} {args : Array Value} {w : World} {R : Value → World → Prop} (h : Rows P row args w R) : RowsIn Fence.wide n P row args w R := by
  intro c cs _
  obtain ⟨v, w', h1, h2⟩ := h c cs
  exact ⟨v, w', h1, stepsIn_wide.2 h2⟩
theorem oper_wpIn_of {P : Program} {o : Oper} {a : Act} {w : World} {K : Act → World → Prop} {Q : Exit → Act → World → Prop} {l m : Nat} (hd : ∀ c, o.op ≠ Op.defer c) (h : o.wp P a w K Q) : o.wpIn (Fence.wide.inRound l) m P a w K Q := by
  refine ⟨fun _ _ => trivial, ?_⟩
  rw [Oper.semAt_plain _ _ _ hd]
  unfold Oper.wp at h
  generalize (execOp a.eval o).run P w = r at h ⊢
  cases r with
  | ok nx w' =>
    cases nx <;> first | exact h | exact ⟨fun h0 => by simp [Fence.wide, Fence.inRound] at h0, CallsIn.inRound l (callsIn_wide.2 h)⟩ | exact ⟨fun h0 => by simp [Fence.wide, Fence.inRound] at h0, rows_wide h⟩ | exact (show False from h).elim
  | halt hh w' =>
    cases hh <;> first | exact h | exact (show False from h).elim
theorem opsIn_of {P : Program} {ops : Array Oper} {Q : Exit → Act → World → Prop} {l m : Nat} (hd : ∀ (i : Nat) (o : Oper), ops[i]? = some o → ∀ c, o.op ≠ Op.defer c) (hL : ¬ LetsOut Q) : ∀ (is : List Nat) (a : Act) (w : World), wpOps P ops Q is a w → wpOpsIn (Fence.wide.inRound l) m P ops Q is a w
  | [], a, w, h => h
  | i :: is, a, w, h => by
    unfold wpOps at h
    unfold wpOpsIn
    cases ho : ops[i]? with
    | none => rw [ho] at h; exact opsIn_of hd hL is a w h
    | some o =>
      rw [ho] at h
      simp only at h ⊢
      split
      · rename_i hw
        rw [if_pos hw] at h
        rcases h with h | ⟨_, h⟩
        · exact oper_wpIn_of (hd i o ho) (Oper.wp_mono (fun a w h => opsIn_of hd hL is a w h) h)
        · exact absurd h hL
      · rename_i hw
        rw [if_neg hw] at h
        exact ⟨fun _ _ => trivial, opsIn_of hd hL is _ w h⟩
/-- THE LAW of held tails, in a round. -/
theorem wpIn_region_heldtail {P : Program} {Q : Exit → Act → World → Prop} {lp m : Nat} {id : Nat} {a : Act} {w : World} {l : List Oper} (n : Nat) (S : World → Prop) (hm : P.follows .mixedOrders = true) (hB : heldB .any l n = true)
    (hd : l.all (fun o => match o.op with | .defer _ => false | _ => true) = true) (hL : ¬ LetsOut Q)
    (h : HL P .any l.toArray Q S n (TailL P Q n l) n (Array.replicate l.length false) a w.drew) : (Code.region id l.toArray true).wpIn (Fence.wide.inRound lp) m P Q a w := by
  have hB' := hB
  unfold heldB at hB'
  simp only [Bool.and_eq_true, decide_eq_true_eq] at hB'
  refine wpIn_region_draw fun t => ?_
  refine opsIn_of (fun i o ho c e => ?_) hL _ a _ ?_
  · have h1 : o ∈ l := by
      have := List.mem_of_getElem? (by simpa using ho : l[i]? = some o)
      exact this
    have h2 := List.all_eq_true.1 hd o h1
    rw [e] at h2
    cases h2
  · simp only [Region.schedule, hm, Bool.true_or, if_true]
    refine wpAny_sound _ t _ a _ ?_
    have h1 := of_HL (g := l.length - n) (fun listed a w hl => by
      obtain ⟨rfl, h2⟩ := hl
      have := wpAny_of_seq (P := P) (md := .any) (ops := l.toArray) (Q' := Q) (l.drop n) n (Array.replicate n true ++ Array.replicate (l.length - n) false) a w (fun j => by simp) (by rw [List.length_drop]; exact hB'.2) h2
      rwa [List.length_drop] at this) n _ a w.drew h
    rw [show n + (l.length - n) = l.toArray.size by simp; omega] at h1
    simpa using h1
end Go.Proofs.YtjbdhakogbolkabDoor
end
section
/- bpe's row: left: its contract. -/
namespace Go.Proofs.YtjbdhakogbolkabDoor
open Go.RowKit Go.Shelf Go.Lib
open Go.Joins Go.Sort
attribute [local go_sem] Oper.semAt_some
set_option linter.unusedVariables false
set_option linter.unusedSimpArgs false
set_option maxRecDepth 100000
theorem wpListIn_append_run {F : Fence} {m : Nat} {P : Program} {w : World} {ops : Array Oper} {rest : List Oper} {o : Oper} {a : Act} {Q : Exit → Act → World → Prop} (hgd : o.guard = none) (s x : Operand) (t tx : TypeId)
    (ho : o.op = .call { callee := .builtin .append, args := #[s, x], argTypes := #[t, tx] }) (v y : Value) (hs : a.eval s = v) (hx : a.eval x = y) (v' : Value) (w' : World)
    (hr : (Builtin.append_ #[t, tx] o.type #[v, y]).run P w = .ok v' w') (h : wpListIn F m P ops Q rest (a.put o.dst v') w') : wpListIn F m P ops Q (o :: rest) a w := by
  refine wpListIn_plain hgd fun K hK' => ?_
  unfold Oper.wpIn
  refine ⟨?_, ?_⟩
  · simp [Oper.about, ho, resolve, Target.leads, Sem.run_pure]
  · rw [Oper.semAt_plain F _ _ (by rw [ho]; intro c hc'; cases hc')]
    simp [execOp, ho, resolve, invoke, builtin, hs, hx, hr, Result.andThen]
    exact hK' _ _ h
theorem run_makeZ (c : Nat) (hc : c ≤ 1048577) : ∃ arr : Array Value, arr.size = c ∧ ∀ u : World, (Instr.makeSlice 35 (.int .i64 0) (.int .i64 (c : Nat))).run Tryd.prog u = .ok (.slice (some ⟨u.heap.size, 0, none⟩) 0 c) (u.alloc (.cells arr 3)) := by
  obtain ⟨i0, hi, hz0, hz1, hz2⟩ := HQ.info_parts infoN
  refine ⟨madeCells (Value.int .i64 0).cells (c * 1), by rw [size_madeCells]; omega, fun u => ?_⟩
  have h := run_make (P := Tryd.prog) u 35 3 i0 _ Tryd.underlying35 hi hz0 .i64 .i64 (0 : Int) (c : Int) (by omega) (by omega) (by rw [hz2]; omega) (by omega)
  rw [hz1] at h
  have e : ((c : Int)).toNat = c := by omega
  rw [e] at h
  exact h
/-- An int more. -/
theorem run_pushN (W : World) (base : Nat) (v : Value) (L : List Int) (x : Int) (b : Nat) (hown : RowN W base v L) (hx : W.heap[b]? = some (.cells #[.int .i64 x] 3 (0, 0))) (hb : base ≤ W.heap.size) (hl : L.length + 1 ≤ 2199023255552) :
    ∃ v' w', (Builtin.append_ #[35, 35] 35 #[v, .slice (some ⟨b, 0, none⟩) 1 1]).run Tryd.prog W = .ok v' w' ∧ RowN w' base v' (L ++ [x]) ∧ W.grownBy w' v.ownBlock ∧ Moved v v' W.heap.size := by
  obtain ⟨i0, hi0, hz0, hz1, hz2⟩ := HQ.info_parts infoN
  exact run_own_g 35 3 i0 _ 1 8 encN (fun _ => rfl) (by omega) (fun x v hv => by unfold encN at hv; simp at hv; subst hv; rfl) Tryd.underlying35 hi0 hz0 hz1 hz2 rfl W base v L x b 1 hown hx hb (by omega) (by omega)
theorem RowN.kept {w w' : World} {base : Nat} {v : Value} {l : List Int} (h : RowN w base v l) (hb : ∀ k o, base ≤ k → w.heap[k]? = some o → (∃ cs, o = .cells cs 3 (0, 0)) → w'.heap[k]? = some o) : RowN w' base v l :=
  ⟨h.1, by
    rcases h.2 with h0 | ⟨b, cap, cur, e, hbb, hh, rr⟩
    · exact .inl h0
    · exact .inr ⟨b, cap, cur, e, hbb, hb b _ hbb hh ⟨_, rfl⟩, rr⟩⟩
theorem keepsOthers_below_s {W W' : World} (h : Below W.heap.size W W') : KeepsOthers W W' := ⟨h.size, fun k _ hk _ => (h.block k (Array.getElem?_eq_some_iff.1 hk).1).trans hk⟩
theorem boxed_below {W W' : World} {B B' : Nat} {t : TypeId} {v : Value} (h : Boxed W B t v) (hb : Below B' W W') (hB : B < B') : Boxed W' B t v := (hb.block B hB).trans h
theorem boxed_below_s {W W' : World} {B : Nat} {t : TypeId} {v : Value} (h : Boxed W B t v) (hb : Below W.heap.size W W') : Boxed W' B t v := (hb.block B h.lt).trans h
/-- The activation in which the body of a round begins. -/
def actL (a : Act) (r : Nat) : Act := { tmps := (a.tmps.setIfInBounds 16 (.int .i64 (r : Nat))).setIfInBounds 4 (.int .i64 (r : Nat)), defers := [] }
set_option maxHeartbeats 4000000 in
theorem left_any (base r mg ib cg cb hg : Nat) (ia : Option Addr) (ic n : Nat) (hv : Value) (inn : Nat → Bool) (ids : Nat → Int) (H : List HQ.El) (w : World)
    (hR : RowAt w base r mg ib cg cb hg ia ic n hv inn ids (CH.cntG inn n : Nat) H) :
    Calls Tryd.prog 34 #[.pointer (some ⟨r, 0, none⟩)] w fun e w' => ∃ v, e = .returned v ∧ RowN w' w.heap.size v (vwJ inn n ids) ∧ v.ownBlock ≠ none ∧ Below w.heap.size w w' := by
  refine (callsIn_wide (n := 3)).1 ?_
  have hn := hR.ch.le
  obtain ⟨cnt, hcnt⟩ : ∃ cnt, cnt = CH.cntG inn n := ⟨_, rfl⟩
  have hcl := cnt_le inn n
  rw [← hcnt] at hcl
  obtain ⟨arr, ha, hmk⟩ := run_makeZ cnt (by omega)
  have hlen := CH.all_cnt inn n
  rw [← hcnt] at hlen
  obtain ⟨w1, hw1⟩ : ∃ w1, w1 = w.alloc (.cells #[.pointer (some ⟨r, 0, none⟩)] 56) := ⟨_, rfl⟩
  have hb1 : Below w.heap.size w w1 := by rw [hw1]; exact (Below.refl _ w).alloc (Nat.le_refl _) _
  have hR1 := hR.below hb1
  have k2 := cell_of_block hR1.own 2
  have HL := CH.len_any cg cb n cnt w1 (by rw [hcnt]; exact hR1.ch.own)
  have hbx1 : Boxed w1 w.heap.size 56 (.pointer (some ⟨r, 0, none⟩)) := by rw [hw1]; exact Boxed.new w _ _
  have hs1 : w1.heap.size = w.heap.size + 1 := by rw [hw1]; simp
  have kr := hbx1.cell
  simp only [List.getElem?_toArray, List.getElem?_cons_zero, List.getElem?_cons_succ] at k2
  refine callsIn_of_wp_marks Tryd.func34 rfl trivial ?_ rfl
  simp only [Tryd.ntmps34, List.size_toArray, List.length_cons, List.length_nil, Nat.reduceAdd, Nat.reduceSub, Array.replicate_succ, Array.replicate_zero, List.push_toArray, List.append_toArray, List.nil_append, List.cons_append]
  rw [hw1] at k2 kr
  gi_wp2_with fail
  rw [← hw1]
  refine ⟨trivial, (callsIn_wide.2 HL).mono ?_⟩
  rintro e w2 ⟨rfl, he⟩
  obtain rfl := he.symm
  clear HL
  have HCN : Hid (cnt = CH.cntG inn n) := hcnt
  clear hcnt kr k2 hw1
  obtain ⟨w3, hw3⟩ : ∃ w3, w3 = (w1.alloc (.cells arr 3)).alloc (.cells #[.slice (some ⟨w.heap.size + 1, 0, none⟩) 0 cnt] 35) := ⟨_, rfl⟩
  have hb3 : Below w1.heap.size w1 w3 := by rw [hw3]; exact ((Below.refl _ w1).alloc (Nat.le_refl _) _).alloc (by simp) _
  have hR3 := hR1.below hb3
  have hs3 : w3.heap.size = w.heap.size + 3 := by rw [hw3]; simp; omega
  have hbx3 := boxed_below_s hbx1 hb3
  have hl3 : Boxed w3 (w.heap.size + 2) 35 (.slice (some ⟨w.heap.size + 1, 0, none⟩) 0 cnt) := by
    have := Boxed.new (w1.alloc (.cells arr 3)) 35 (.slice (some ⟨w.heap.size + 1, 0, none⟩) 0 cnt)
    rw [World.size_alloc, hs1] at this
    rw [hw3]
    exact this
  have hN3 : RowN w3 (w.heap.size + 1) (.slice (some ⟨w.heap.size + 1, 0, none⟩) 0 cnt) [] := by
    refine ⟨rfl, .inr ⟨w.heap.size + 1, cnt, arr, rfl, Nat.le_refl _, ?_, Nat.zero_le _, by simp [maxLen]; omega, by omega, by simp⟩⟩
    have h1 : (w1.alloc (.cells arr 3)).heap[w1.heap.size]? = some (.cells arr 3 (0, 0)) := heap_alloc_new w1 _
    rw [hw3, Below.heap_alloc _ _ _ (by simp; omega), ← hs1]
    exact h1
  have hB3 := hb1.trans (hb3.mono (by omega))
  have hwl : w1.heap.size = w.heap.size + 1 := hs1
  have k0 := hbx3.cell
  have k2 := cell_of_block hR3.own 2
  simp only [List.getElem?_toArray, List.getElem?_cons_zero, List.getElem?_cons_succ] at k2
  rw [hw3] at k0 k2
  clear hb1 hb3 hR1 hbx1 hwl ha
  gi_wp2_with fail
  rw [← hw3]
  obtain ⟨z, hz⟩ : ∃ z, z = w.heap.size := ⟨_, rfl⟩
  have HZ : Hid (z = w.heap.size) := hz
  rw [← hz] at hs3 hbx3 hl3 hN3 ⊢
  clear hw3 hmk hs1 k0 k2 hz
  refine ⟨trivial, (CH.all_in _ cg w3).mono ?_⟩
  rintro e w4 ⟨rfl, hw4⟩
  have hb4 : Below w3.heap.size w3 w4 := by rw [hw4]; exact (Below.refl _ w3).alloc (Nat.le_refl _) _
  have hc4 : w4.heap[w3.heap.size]? = some (.cells #[.pointer (some ⟨cg, 0, none⟩)] 86 (0, 0)) := by rw [hw4]; exact heap_alloc_new w3 _
  rw [hs3] at hc4 ⊢
  have hs4 : w4.heap.size = z + 4 := by rw [hw4]; simp; omega
  have hR4 := hR3.below hb4
  have hl4 := boxed_below_s hl3 hb4
  have hx4 := boxed_below_s hbx3 hb4
  have hN4 := hN3.below hb4
  have hB4 := hB3.trans (hb4.mono (by have := HZ.out; omega))
  clear hw4
  gi_wp2_with fail
  have hG := CH.all_G 2 (by omega) (z + 3) cg cb n inn _ w4 hc4 hR4.ch
  have hrl := hR.own.lt
  have hcgl := hR.chl
  refine wpIn_rangeFunc_G1 rfl (by omega) (gf := 72) (lb := #[.pointer (some ⟨z + 3, 0, none⟩)]) rfl trivial (enters_of Tryd.func72 (by kernel_rfl) rfl) hG
    (fun q A B k o _ hrl hk _ ho _ => (hrl.block k (Array.getElem?_eq_some_iff.1 ho).1).trans ho)
    (fun xs A o o' h _ _ => h) (fun h k => h.trans k) (fun W o o' h ho hw => CH.KpC.putObj (w := w4) (by omega) (by have := HZ.out; omega) (by have := HZ.out; omega) W _ o o' (by omega) h ho hw) (Below.refl _ _) (fun _ => rfl)
    (fun q pre W => (∃ v, (Boxed W (z + 2) 35 v ∧ v.ownBlock ≠ none) ∧ RowN W (z + 1) v (pre.map ids)) ∧ Below (z + 1) w4 W ∧ W.heap[z + 3]? = w4.heap[z + 3]?)
    (fun c q pre W => False)
    ?own1 ?own2 ?own3 ?own4 ?start actL ?assign ?body ?done ?stop
  case own1 =>
    intro q pre W W' row ⟨⟨v, ⟨h1, hnb⟩, h2⟩, h3, h9⟩ hg hr
    refine ⟨⟨v, ⟨h1.kept hg (fun e => ?_), hnb⟩, World.ownsRow.kept h2 hg ?_⟩, h3.grown hg (by have := h3.size; omega) (fun k e => by have := (hr k e).1; omega), (hg.block _ (by have := h3.size; omega) (fun e => by have := (hr _ e.symm).1; omega)).trans h9⟩
    · have := (hr _ e.symm).1
      omega
    · by_cases hv : v.ownBlock = none
      · exact .inl hv
      · right
        intro e
        rcases h2.2 with ⟨rfl, _⟩ | ⟨b, cap, cur, rfl, hb, hh, rr⟩
        · exact hv rfl
        · obtain ⟨_, o, ho, hc⟩ := hr b e.symm
          rw [hh] at ho
          cases ho
          cases hc
  case own2 =>
    intro c q pre W W' row h _ _
    exact h
  case own3 =>
    intro q pre A B ⟨⟨v, ⟨h1, hnb⟩, h2⟩, h3, h9⟩ hAB
    exact ⟨⟨v, ⟨boxed_below_s h1 hAB, hnb⟩, h2.below hAB⟩, h3.trans (hAB.mono (by have := h3.size; omega)), (hAB.block _ (by have := h3.size; omega)).trans h9⟩
  case own4 =>
    intro c q pre A B h _
    exact h
  case start => exact fun q _ => ⟨⟨_, ⟨hl4, by simp [Value.ownBlock]⟩, hN4⟩, Below.refl _ _, rfl⟩
  case assign =>
    rintro q pre r W K hI _ _ hK
    gi_wp2
    exact hK _ _ ((KeepsOthers.refl W).from _) (CH.KpC.refl _ _ _ W) hI rfl
  case body =>
    rintro q pre x W ⟨rr, hrr⟩ hq1 hq2 ⟨⟨v, ⟨h1, hnb⟩, h2⟩, h3, h9⟩ hok
    simp only [actL, List.setIfInBounds_toArray, List.set_cons_succ, List.set_cons_zero]
    obtain ⟨hx1, hx2, hx3⟩ := CH.at_all (inn := inn) (n := n) (p := pre.length) (k := x) (by
      obtain ⟨t, ht⟩ := hok
      rw [← ht, List.append_assoc, List.getElem?_append_right (Nat.le_refl _), Nat.sub_self]
      rfl)
    have hzw : w.heap.size = z := HZ.out.symm
    have hW4 : Below w.heap.size w4 W := h3.mono (by omega)
    have hRW := (hW4.block r (by omega)).trans hR4.own
    have hxW := boxed_below hx4 h3 (by omega)
    have hne0 : ¬ n = 0 := by omega
    obtain ⟨hia, hidW, hil⟩ : ia = some ⟨ib, 0, none⟩ ∧ IdAt W ib n ids ∧ ib < w.heap.size := by
      rcases hR.ids with h0 | ⟨g1, g2, -⟩
      · exact absurd h0 hne0
      · exact ⟨g1, (g2.below hB4).kept (hW4.block ib g2.lt), g2.lt⟩
    subst hia
    have r0 := hxW.cell
    have r1 := cell_of_block hRW 1
    have r2 := hidW.at' hx1
    have r3 := h1.cell
    simp only [List.getElem?_toArray, List.getElem?_cons_zero, List.getElem?_cons_succ] at r1
    have bi : 0 ≤ (x : Int) ∧ (x : Int) < (n : Int) := by omega
    have hlW := h1.lt
    have hsW := h3.size
    have hk0 : ∀ W', Below W.heap.size W W' → W'.cell? ⟨z + 2, 0, none⟩ = some v ∧ W'.cell? ⟨z, 0, none⟩ = some (.pointer (some ⟨r, 0, none⟩)) ∧ W'.cell? ⟨r, 1, none⟩ = some (.slice (some ⟨ib, 0, none⟩) n ic) ∧ W'.cell? ⟨ib, x, none⟩ = some (.int .i64 (ids x)) := fun W' hb =>
      ⟨(hb.cell (World.block_lt_of_cell? W _ r3)).trans r3, (hb.cell (World.block_lt_of_cell? W _ r0)).trans r0, (hb.cell (World.block_lt_of_cell? W _ r1)).trans r1, (hb.cell (World.block_lt_of_cell? W _ r2)).trans r2⟩
    have hrb : r ≠ z + 2 := by omega
    have hib2 : ib ≠ z + 2 := by omega
    clear hzw hRW hW4 hxW hidW
    obtain ⟨W6, hW6⟩ : ∃ W6, W6 = W.drew.alloc (.cells #[.int .i64 (ids x)] 3) := ⟨_, rfl⟩
    have hb7 : Below W.heap.size W W6 := by rw [hW6]; exact ((Below.refl W.heap.size W).drew).alloc (Nat.le_refl _) _
    have hp6 : W6.heap[W.heap.size]? = some (.cells #[.int .i64 (ids x)] 3 (0, 0)) := by rw [hW6]; exact heap_alloc_new W.drew _
    have hs7 := hb7.size
    have hpl : pre.length ≤ n := by
      have h4 := CH.all_len inn n 0
      obtain ⟨t, ht⟩ := hok
      have h5 := congrArg List.length ht
      simp at h5
      omega
    obtain ⟨v', W8, hrun, hN8, hg8, hm8⟩ := run_pushN W6 (z + 1) v (pre.map ids) (ids x) W.heap.size (h2.below hb7) hp6 (by omega) (by simp; omega)
    obtain ⟨L8, hL8⟩ : ∃ L8, L8 = (pre.map ids ++ [ids x]).length := ⟨_, rfl⟩
    obtain ⟨b8, q8, rfl⟩ : ∃ b8 q8, v' = .slice (some ⟨b8, 0, none⟩) L8 q8 := by
      rcases ownsRow_forms hN8 with ⟨_, h0⟩ | ⟨b, q, e⟩
      · simp at h0
      · exact ⟨b, q, by rw [hL8]; exact e⟩
    clear hL8
    have hko8 : KeepsOthers W W8 := (keepsOthers_below_s hb7).trans (KeepsOthers.of_grownBy hg8 (fun j o ej hj => by
      rcases (h2.below hb7).2 with ⟨e0, _⟩ | ⟨b0, cap0, cur0, e0, _, hh0, _⟩
      · rw [e0] at ej; cases ej
      · rw [e0] at ej
        cases ej
        rw [hh0] at hj
        cases hj
        rfl))
    have hvn : ∀ k, v.ownBlock = some k → z + 1 ≤ k ∧ ∃ cs, W.heap[k]? = some (.cells cs 3 (0, 0)) := fun k hk => by
      rcases h2.2 with ⟨e0, _⟩ | ⟨b0, cap0, cur0, e0, g0, hh0, _⟩
      · rw [e0] at hk; cases hk
      · rw [e0] at hk
        cases hk
        exact ⟨g0, _, hh0⟩
    have hl8 : Boxed W8 (z + 2) 35 v := (boxed_below_s h1 hb7).kept hg8 (fun e => by
      obtain ⟨_, cs, h4⟩ := hvn _ e.symm
      have h5 : W.heap[z + 2]? = _ := h1
      rw [h4] at h5
      injection h5 with h5
      injection h5 with _ h5 _
      exact absurd h5 (by decide))
    have hB8 : Below (z + 1) W W8 := (hb7.mono (by omega)).grown hg8 (by omega) (fun k hk => (hvn k hk).1)
    have hsz6 : W6.heap.size = W.heap.size + 1 := by rw [hW6]; simp
    have c3 : W8.heap[z + 3]? = W.heap[z + 3]? := by
      have h4 : W6.heap[z + 3]? = W.heap[z + 3]? := hb7.block _ (by have := hs4; omega)
      rw [← h4]
      refine hg8.block _ (by omega) (fun e => ?_)
      obtain ⟨_, cs, h5⟩ := hvn _ e.symm
      rw [h9, hc4] at h5
      injection h5 with h5
      injection h5 with _ h5 _
      exact absurd h5 (by decide)
    have kl8 := hl8.cell
    have fl8 := hl8.frozen
    have hS8 : W8.cell? ⟨z + 2, 0, none⟩ = some v ∧ W8.cell? ⟨z, 0, none⟩ = some (.pointer (some ⟨r, 0, none⟩)) ∧ W8.cell? ⟨r, 1, none⟩ = some (.slice (some ⟨ib, 0, none⟩) n ic) ∧ W8.cell? ⟨ib, x, none⟩ = some (.int .i64 (ids x)) := by
      have hzw := HZ.out
      exact ⟨kl8, (hB8.cell (p := ⟨z, 0, none⟩) (by show z < z + 1; omega)).trans r0, (hB8.cell (p := ⟨r, 1, none⟩) (by show r < z + 1; omega)).trans r1, (hB8.cell (p := ⟨ib, x, none⟩) (by show ib < z + 1; omega)).trans r2⟩
    clear hp6 hg8 hm8
    gi_wp2_with fail
    refine wpIn_region_heldtail 10 (fun w' : World => w'.cell? ⟨z + 2, 0, none⟩ = some v ∧ w'.cell? ⟨z, 0, none⟩ = some (.pointer (some ⟨r, 0, none⟩)) ∧ w'.cell? ⟨r, 1, none⟩ = some (.slice (some ⟨ib, 0, none⟩) n ic) ∧ w'.cell? ⟨ib, x, none⟩ = some (.int .i64 (ids x))) (by kernel_rfl) (by kernel_rfl) (by kernel_rfl) (fun ⟨_, _, h⟩ => h) ?_
    refine HL_take (i := 0) (v) (by kernel_rfl) rfl (by omega) (by kernel_rfl) (by kernel_rfl) (by kernel_rfl) (fun _ _ _ h => h) (.inl ⟨by kernel_rfl, fun w' hw' => by obtain ⟨q1, q2, q3, q4⟩ := hw'; go_simp⟩) ⟨r3, r0, r1, r2⟩ ?_
    simp only [Act.put, List.getElem_toArray, List.getElem_cons_zero, List.getElem_cons_succ, List.setIfInBounds_toArray, List.set_cons_zero, List.set_cons_succ]
    refine HL_take (i := 1) (.pointer (some ⟨r, 0, none⟩)) (by kernel_rfl) rfl (by omega) (by kernel_rfl) (by kernel_rfl) (by kernel_rfl) (fun _ _ _ h => h) (.inl ⟨by kernel_rfl, fun w' hw' => by obtain ⟨q1, q2, q3, q4⟩ := hw'; go_simp⟩) ⟨r3, r0, r1, r2⟩ ?_
    simp only [Act.put, List.getElem_toArray, List.getElem_cons_zero, List.getElem_cons_succ, List.setIfInBounds_toArray, List.set_cons_zero, List.set_cons_succ]
    refine HL_take (i := 2) (.pointer (some ⟨r, 0, none⟩)) (by kernel_rfl) rfl (by omega) (by kernel_rfl) (by kernel_rfl) (by kernel_rfl) (fun _ _ _ h => h) (.inl ⟨by kernel_rfl, fun w' hw' => by obtain ⟨q1, q2, q3, q4⟩ := hw'; go_simp⟩) ⟨r3, r0, r1, r2⟩ ?_
    simp only [Act.put, List.getElem_toArray, List.getElem_cons_zero, List.getElem_cons_succ, List.setIfInBounds_toArray, List.set_cons_zero, List.set_cons_succ]
    refine HL_take (i := 3) (.pointer (some ⟨r, 1, none⟩)) (by kernel_rfl) rfl (by omega) (by kernel_rfl) (by kernel_rfl) (by kernel_rfl) (fun _ _ _ h => h) (.inl ⟨by kernel_rfl, fun w' hw' => by obtain ⟨q1, q2, q3, q4⟩ := hw'; go_simp⟩) ⟨r3, r0, r1, r2⟩ ?_
    simp only [Act.put, List.getElem_toArray, List.getElem_cons_zero, List.getElem_cons_succ, List.setIfInBounds_toArray, List.set_cons_zero, List.set_cons_succ]
    refine HL_take (i := 4) (.slice (some ⟨ib, 0, none⟩) n ic) (by kernel_rfl) rfl (by omega) (by kernel_rfl) (by kernel_rfl) (by kernel_rfl) (fun _ _ _ h => h) (.inl ⟨by kernel_rfl, fun w' hw' => by obtain ⟨q1, q2, q3, q4⟩ := hw'; go_simp⟩) ⟨r3, r0, r1, r2⟩ ?_
    simp only [Act.put, List.getElem_toArray, List.getElem_cons_zero, List.getElem_cons_succ, List.setIfInBounds_toArray, List.set_cons_zero, List.set_cons_succ]
    refine HL_take (i := 5) (.int .i64 (x : Nat)) (by kernel_rfl) rfl (by omega) (by kernel_rfl) (by kernel_rfl) (by kernel_rfl) (fun _ _ _ h => h) (.inl ⟨by kernel_rfl, fun w' hw' => by obtain ⟨q1, q2, q3, q4⟩ := hw'; go_simp⟩) ⟨r3, r0, r1, r2⟩ ?_
    simp only [Act.put, List.getElem_toArray, List.getElem_cons_zero, List.getElem_cons_succ, List.setIfInBounds_toArray, List.set_cons_zero, List.set_cons_succ]
    refine HL_take (i := 6) (.pointer (some ⟨ib, x, none⟩)) (by kernel_rfl) rfl (by omega) (by kernel_rfl) (by kernel_rfl) (by kernel_rfl) (fun _ _ _ h => h) (.inl ⟨by kernel_rfl, fun w' hw' => by obtain ⟨q1, q2, q3, q4⟩ := hw'; go_simp⟩) ⟨r3, r0, r1, r2⟩ ?_
    simp only [Act.put, List.getElem_toArray, List.getElem_cons_zero, List.getElem_cons_succ, List.setIfInBounds_toArray, List.set_cons_zero, List.set_cons_succ]
    refine HL_take (i := 7) (.int .i64 (ids x)) (by kernel_rfl) rfl (by omega) (by kernel_rfl) (by kernel_rfl) (by kernel_rfl) (fun _ _ _ h => h) (.inl ⟨by kernel_rfl, fun w' hw' => by obtain ⟨q1, q2, q3, q4⟩ := hw'; go_simp⟩) ⟨r3, r0, r1, r2⟩ ?_
    simp only [Act.put, List.getElem_toArray, List.getElem_cons_zero, List.getElem_cons_succ, List.setIfInBounds_toArray, List.set_cons_zero, List.set_cons_succ]
    refine HL_one (i := 8) rfl (by omega) (by kernel_rfl) rfl ?_
    refine wp_value (v := .slice (some ⟨W.heap.size, 0, none⟩) 1 1) (w' := W6) (by rw [hW6]; go_simp) ?_
    refine ⟨hk0 _ hb7, ?_⟩
    simp only [Act.put, List.getElem_toArray, List.getElem_cons_zero, List.getElem_cons_succ, List.setIfInBounds_toArray, List.set_cons_zero, List.set_cons_succ]
    refine HL_one (i := 9) rfl (by omega) (by kernel_rfl) rfl ?_
    refine wp_append (.tmp 17) (.tmp 25) 35 35 rfl v (.slice (some ⟨W.heap.size, 0, none⟩) 1 1) rfl rfl (fun v2 w3 => v2 = .slice (some ⟨b8, 0, none⟩) L8 q8 ∧ w3 = W8) ⟨_, W8, hrun, rfl, rfl⟩ ?_
    rintro v2 w3 ⟨e1, e2⟩
    rw [e1, e2]
    clear e1 e2 v2 w3
    refine ⟨hS8, ?_⟩
    simp only [Act.put, List.getElem_toArray, List.getElem_cons_zero, List.getElem_cons_succ, List.setIfInBounds_toArray, List.set_cons_zero, List.set_cons_succ]
    refine ⟨by kernel_rfl, ?_⟩
    simp only [List.drop_succ_cons, List.drop_zero]
    clear hrun hW6 hb7 hS8 hk0 r0 r1 r2 r3
    go_wp2_with fail
    have hset : ∀ k, k ≠ z + 2 → (W8.setCell ⟨z + 2, 0, none⟩ (.slice (some ⟨b8, 0, none⟩) L8 q8)).heap[k]? = W8.heap[k]? := fun k hk => Below.heap_setCell W8 ⟨z + 2, 0, none⟩ _ k hk
    have hzw := HZ.out
    refine ⟨(hko8.trans (KeepsOthers.setCell _ _ _)).from _, ⟨?_, ?_, ?_, ?_⟩, ⟨_, ⟨hl8.set _, by simp [Value.ownBlock]⟩, ?_⟩, ?_, ?_⟩
    · have := hB8.size
      simpa using this
    · exact (hset _ (by omega)).trans c3
    · exact (hset _ (by omega)).trans (hB8.block _ (by omega))
    · exact (hset _ (by omega)).trans (hB8.block _ (by omega))
    · rw [List.map_append]
      refine hN8.kept (fun k o hk ho hc => (hset k (fun e => ?_)).trans ho)
      subst e
      obtain ⟨cs, rfl⟩ := hc
      have h5 : W8.heap[z + 2]? = _ := hl8
      rw [ho] at h5
      injection h5 with h5
      injection h5 with _ h5 _
      exact absurd h5 (by decide)
    · exact h3.trans (hB8.setCell (p := ⟨z + 2, 0, none⟩) (by show z + 1 ≤ z + 2; omega) _)
    · exact ((hset _ (by omega)).trans c3).trans h9
  case done =>
    rintro D q ys W rfl hq rfl ⟨⟨v, ⟨h1, hnb⟩, h2⟩, h3, h9⟩ hDk
    have k1 := h1.cell
    have hzw : w.heap.size = z := HZ.out.symm
    gi_wp2_with fail
    refine ⟨by simp, .inl ⟨_, _, rfl, run_takeDeferred hDk, ?_⟩⟩
    refine ⟨v, by simp [results, Tryd.results34, go_sem], v, rfl, ?_, hnb, ?_⟩
    · rw [hzw]
      refine ⟨h2.1, ?_⟩
      rcases h2.2 with h0 | ⟨b, cap, cur, e, hb, hh, rr⟩
      · exact .inl h0
      · refine .inr ⟨b, cap, cur, e, by omega, (World.putObj_heap_other (fun e2 => ?_)).trans hh, rr⟩
        rw [← e2, hh] at hDk
        cases hDk
    · exact (hB4.trans (h3.mono (by omega))).trans (belowK_b (w := w) (Nat.le_refl _) W _ _ _ (by omega) hDk rfl rfl)
  case stop =>
    rintro D q c pre W rfl hq hp h hDk
    exact h.elim
end Go.Proofs.YtjbdhakogbolkabDoor
end
