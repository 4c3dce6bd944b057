import Derived.Test.YtjbdhakogbolkaaDoorJ15
import Derived.RangeFuncNested
import Derived.RangeFuncBound
import Derived.RangeFuncCalls
import Derived.RangeFuncLeaves
import Derived.RangeFuncBox
import Derived.Shelf.Abstract
import Derived.Shelf.RegionOpen
import Derived.OwnWalkIn
import Derived.TacticsInMore
import Derived.LoopNIn
import Derived.LoopIn
import Derived.Maps.AppendAt
import Derived.Lib.QuietBelowIn
import Derived.Sort.QuietTacIn
import Derived.Sort.BigQuietIn
import Derived.Test.YtjbdhakogbolkaaDoorJ14
import Derived.Test.YtjbdhakogbolkaaDoorJ11
section
/- bpe's newRow: its contract. -/
namespace Go.Proofs.YtjbdhakogbolkaaDoor
open Go.RowKit Go.Joins Go.Sort
set_option linter.unusedVariables false
set_option linter.unusedSimpArgs false
set_option maxRecDepth 100000
theorem HQ.HeapAt.lower {w : World} {base base' g : Nat} {v : Value} {L : List HQ.El} (h : HQ.HeapAt w base g v L) (hb : base' ≤ base) : HQ.HeapAt w base' g v L :=
  ⟨Nat.le_trans hb h.low, h.at_, ⟨h.row.1, by
    rcases h.row.2 with h0 | ⟨b, cap, cur, e, hbb, rr⟩
    · exact .inl h0
    · exact .inr ⟨b, cap, cur, e, Nat.le_trans hb hbb, rr⟩⟩, h.ne⟩
/-- The first pairs. -/
def CovTo (ms : List Mg) (n : Nat) (s : StJ) (k : Nat) (L : List HQ.El) : Prop := ∀ l k' i, l < k → paJ ms s.1 n s.2 l = some (k', i) → ∃ y ∈ L, y.k = (k' : Nat) ∧ y.i = i ∧ y.p = (l : Nat) ∧ y.q = (CH.nxF s.1 n l : Nat)
set_option maxHeartbeats 4000000 in
theorem newRow_any (base mg ib lo : Nat) (ia : Option Addr) (ic n : Nat) (ids : Nat → Int) (ws : List ByteArray) (ms : List Mg) (A B C : List Sp) (w : World)
    (hn : n ≤ 1048576) (hids : n = 0 ∨ (ia = some ⟨ib, 0, none⟩ ∧ IdAt w ib n ids ∧ base ≤ ib)) (hM : ModelAt w lo mg ws ms A B C) (hI : ∀ k, k < n → W64 (ids k)) (hbase : base ≤ w.heap.size) :
    Calls Tryd.prog 30 #[.pointer (some ⟨mg, 0, none⟩), .slice ia n ic] w fun e w' => ∃ r ib' cg cb hg hv H, e = .returned (.pointer (some ⟨r, 0, none⟩)) ∧ RowAt w' base r mg ib' cg cb hg ia ic n hv (CH.inn0 n) ids (n : Nat) H ∧ base ≤ ib' ∧ (r < w'.heap.size ∧ ib' < w'.heap.size ∧ cg < w'.heap.size ∧ cb < w'.heap.size ∧ hg < w'.heap.size) ∧
      HPf HQ.keyE H 0 ∧ Cov ms n (CH.inn0 n, ids) H ∧ H.length ≤ n ∧ Below w.heap.size w w' := by
  have HN := CH.new_any (n : Nat) (n : Nat) n w (by rw [if_neg (by omega)]) (by rw [if_neg (by omega)]) hn
  have hnil : World.ownsRow w w.heap.size 86 4 (.slice none 0 0) 0 [] := World.ownsRow_nil _ _ _ _
  go_enter Tryd.func30, Tryd.ntmps30
  go_wp2_with fail
  refine HN.mono ?_
  rintro e w1 ⟨cg, cb, rfl, hcg, hcb, hC1, B1⟩
  clear HN
  obtain ⟨w2, hw2⟩ : ∃ w2, w2 = w1.alloc (.cells #[.pointer (some ⟨mg, 0, none⟩), .slice ia n ic, .pointer (some ⟨cg, 0, none⟩), .pointer none] 116) := ⟨_, rfl⟩
  have hb2 : Below w1.heap.size w1 w2 := by rw [hw2]; exact (Below.refl _ w1).alloc (Nat.le_refl _) _
  have hr2 : RwAt w2 w1.heap.size mg ia ic n cg (.pointer none) := by rw [hw2]; exact heap_alloc_new w1 _
  have hC2 := hC1.below hb2
  have hB2 := B1.trans (hb2.mono B1.size)
  have hs1 := B1.size
  have hs2 : w2.heap.size = w1.heap.size + 1 := by rw [hw2]; simp
  have hcl := CH.Ch.lt hC1
  go_wp2_with fail
  rw [← hw2]
  obtain ⟨r, hr⟩ : ∃ r, r = w1.heap.size := ⟨_, rfl⟩
  rw [← hr] at hr2 hs2 ⊢
  have hrc : r ≠ cg ∧ r ≠ cb ∧ cg < r ∧ cb < r := by omega
  clear hw2 hC1 hb2
  have HR : Hid (r = w1.heap.size) := hr
  have hwr : w.heap.size ≤ r := by omega
  clear hr hcl
  go_loopw [6, 19] (fun v6 v19 wr => ∃ (k : Nat) (L : List HQ.El) (lv : Value), k ≤ n ∧ v19 = .int .i64 (k : Nat) ∧ lv = v6 ∧ HQ.RowE wr w2.heap.size lv L ∧ L.length ≤ k ∧ CovTo ms n (CH.inn0 n, ids) k L ∧ Below w2.heap.size w2 wr) (fun _ v19 _ => n - (intOf v19).toNat)
  case atStart => exact ⟨0, [], _, Nat.zero_le _, rfl, rfl, World.ownsRow_nil _ _ _ _, Nat.le_refl _, fun l _ _ h => by omega, Below.refl _ _⟩
  case round =>
    obtain ⟨k, L, lv, hk, rfl, hlv, hL, hLk, hCv, hB⟩ := hrel
    subst hlv
    have hB3 := hB2.trans (hB.mono hB2.size)
    by_cases hlt : k < n
    · have d : decide ((k : Int) < (n : Int)) = true := decide_eq_true (by omega)
      have HP := pairAt_any r mg ib cg cb lo _ ia ic n (n : Nat) (CH.inn0 n) ids (k : Nat) ws ms A B C wr (hr2.below hB) (hids.imp_right fun h => ⟨h.1, h.2.1.below hB3⟩) (hC2.below hB) (hM.below hB3) hI
      have hyes := pairF_yes (ms := ms) (inn := CH.inn0 n) (n := n) (ids := ids) (at_ := (k : Nat))
      have hno := pairF_no (ms := ms) (inn := CH.inn0 n) (n := n) (ids := ids) (k := k)
      obtain ⟨⟨b, fk, fi, fp, fq⟩, hf⟩ : ∃ f, f = pairF ms (CH.inn0 n) n ids (k : Nat) := ⟨_, rfl⟩
      rw [← hf] at HP hyes hno
      unfold prV at HP
      cases b with
      | false =>
        have hpn := hno rfl
        clear hno hyes hf
        go_wp2_with fail
        refine HP.mono ?_
        rintro e w3 ⟨rfl, hb3⟩
        clear HP
        have hb4 : Below wr.heap.size wr (w3.alloc (.cells #[.int .i64 fk, .int .i64 fi, .int .i64 fp, .int .i64 fq] 86)) := hb3.alloc hb3.size _
        go_wp2_with fail
        refine ⟨⟨k + 1, L, _, by omega, by simp, rfl, hL.below hb4, by omega, fun l k' i hl h => ?_, hB.trans (hb4.mono hB.size)⟩, by simp only [intOf]; omega⟩
        by_cases e : l = k
        · rw [e, hpn] at h; cases h
        · exact hCv l k' i (by omega) h
      | true =>
        obtain ⟨k0, k1, i1, h1, hk0, hin, hxn, hpa, he⟩ := hyes rfl
        have : k0 = k := by omega
        subst this
        simp only [Prod.mk.injEq, true_and] at he
        obtain ⟨rfl, rfl, rfl, rfl⟩ := he
        obtain ⟨E, hE⟩ : ∃ E : HQ.El, E = ⟨(k1 : Int), fi, (k0 : Int), (CH.nxF (CH.inn0 n) n k0 : Nat), by omega⟩ := ⟨_, rfl⟩
        have hEE : E.k = (k1 : Int) ∧ E.i = fi ∧ E.p = (k0 : Int) ∧ E.q = ((CH.nxF (CH.inn0 n) n k0 : Nat) : Int) := by rw [hE]; exact ⟨rfl, rfl, rfl, rfl⟩
        obtain ⟨x, hx⟩ : ∃ x, x = CH.nxF (CH.inn0 n) n k0 := ⟨_, rfl⟩
        have hCv' : CovTo ms n (CH.inn0 n, ids) (k0 + 1) (L ++ [E]) := by
          intro l k' i hl h
          by_cases e : l = k0
          · subst e
            have h' : paJ ms (CH.inn0 n) n ids l = some (k', i) := h
            rw [hpa] at h'
            simp only [Option.some.injEq, Prod.mk.injEq] at h'
            obtain ⟨rfl, rfl⟩ := h'
            exact ⟨E, by simp, hEE⟩
          · obtain ⟨y, hy, g⟩ := hCv l k' i (by omega) h
            exact ⟨y, List.mem_append_left _ hy, g⟩
        rw [← hx] at HP hEE
        have HCV : Hid (CovTo ms n (CH.inn0 n, ids) (k0 + 1) (L ++ [E])) := hCv'
        clear hno hyes hf hpa hCv hCv' hE hx h1 hin hxn
        go_wp2_with fail
        refine HP.mono ?_
        rintro e w3 ⟨rfl, hb3⟩
        clear HP
        obtain ⟨w4, hw4⟩ : ∃ w4, w4 = w3.alloc (.cells #[.int .i64 (k1 : Nat), .int .i64 fi, .int .i64 (k0 : Nat), .int .i64 (x : Nat)] 86) := ⟨_, rfl⟩
        have hb4 : Below wr.heap.size wr w4 := by rw [hw4]; exact hb3.alloc hb3.size _
        have hp4 : w4.heap[w3.heap.size]? = some (.cells #[.int .i64 (k1 : Nat), .int .i64 fi, .int .i64 (k0 : Nat), .int .i64 (x : Nat)] 86 (0, 0)) := by rw [hw4]; exact heap_alloc_new w3 _
        obtain ⟨w5, hw5⟩ : ∃ w5, w5 = w4.alloc (.cells #[.int .i64 (k1 : Nat), .int .i64 fi, .int .i64 (k0 : Nat), .int .i64 (x : Nat)] 86) := ⟨_, rfl⟩
        have hb5 : Below w4.heap.size w4 w5 := by rw [hw5]; exact (Below.refl _ _).alloc (Nat.le_refl _) _
        have hb6 := hb4.trans (hb5.mono hb4.size)
        have hq5 : w5.heap[w4.heap.size]? = some (.cells (HQ.cellsE E).toArray 86 (0, 0)) := by
          rw [hw5]
          unfold HQ.cellsE
          rw [hEE.1, hEE.2.1, hEE.2.2.1, hEE.2.2.2]
          exact heap_alloc_new w4 _
        have hw2s := hB.size
        have hw6s := hb6.size
        obtain ⟨v', w6, hrun, hL6, hg6, hm6⟩ := HQ.run_push w5 w2.heap.size lv L E w4.heap.size (hL.below hb6) hq5 (by omega) (by omega)
        have hb7 : Below w2.heap.size w2 w6 := (hB.trans (hb6.mono hB.size)).grown hg6 (by omega) (fun q hq => (World.ownsRow.lt hL q hq).1)
        have p0 := cell_of_block hp4 0
        have p1 := cell_of_block hp4 1
        have p2 := cell_of_block hp4 2
        have p3 := cell_of_block hp4 3
        simp only [List.getElem?_toArray, List.getElem?_cons_zero, List.getElem?_cons_succ] at p0 p1 p2 p3
        rw [hw4] at p0 p1 p2 p3
        have hsz4 : w4.heap.size = w3.heap.size + 1 := by rw [hw4]; simp
        rw [hsz4] at hrun
        rw [hw5, hw4] at hrun
        clear hsz4
        clear hq5 hb5 hb6 hp4 hb4 hEE hg6 hm6 hb3 hw5 hw4 hL hw2s hw6s
        clear w5 w4
        go_wp2_with (at_builtin; refine wpList_append_run rfl (.tmp 29) (.tmp 31) 117 117 rfl _ _ rfl rfl _ w6 hrun ?_; clear hrun)
        exact ⟨⟨k0 + 1, L ++ [E], _, by omega, by simp, rfl, hL6, by simp; omega, HCV.out, hb7⟩, by simp only [intOf]; omega⟩
    · obtain rfl : k = n := by omega
      have d : decide ((k : Int) < (k : Int)) = false := decide_eq_false (by omega)
      obtain ⟨aa, nn, cc, rfl⟩ : ∃ aa nn cc, lv = .slice aa nn cc := by
        rcases ownsRow_forms hL with ⟨rfl, h0⟩ | ⟨b, q, rfl⟩
        · exact ⟨_, _, _, rfl⟩
        · exact ⟨_, _, _, rfl⟩
      have hnn := hL.len
      subst hnn
      have HO := HQ.of_any aa cc L wr (by omega) hL.sps
      unfold HQ.lessV at HO
      go_wp2_with fail
      refine HO.mono ?_
      rintro e w7 ⟨hg, hv, rfl, hA, hb7⟩
      clear HO
      have hr7 := hr2.below (hB.trans (hb7.mono hB.size))
      have c3 := cell_of_block hr7 3
      have f3 := unfrozen_of_block hr7 3
      simp only [List.getElem?_toArray, List.getElem?_cons_zero, List.getElem?_cons_succ] at c3
      have hs7 := hb7.size
      have hsw := hB.size
      have hgl := hA.low
      have hgt := hA.lt
      have hB8 := hB3.trans (hb7.mono hB3.size)
      have hC7 := hC2.below (hB.trans (hb7.mono hB.size))
      have hov := World.ownsRow.lt hA.row
      go_wp2_with fail
      go_ret
      have hk8 : ∀ j, j ≠ r → (w7.setCell ⟨r, 3, none⟩ (.pointer (some ⟨hg, 0, none⟩))).heap[j]? = w7.heap[j]? := fun j hj => Below.heap_setCell w7 ⟨r, 3, none⟩ _ j hj
      have hr8 : RwAt (w7.setCell ⟨r, 3, none⟩ (.pointer (some ⟨hg, 0, none⟩))) r mg ia ic k cg (.pointer (some ⟨hg, 0, none⟩)) := block_setCell (i := 3) hr7 _
      have hne7 : ∀ j, j < wr.heap.size → hv.ownBlock ≠ some j := fun j hj e => by
        have := hov j e
        omega
      have hA8 : HQ.HeapAt (w7.setCell ⟨r, 3, none⟩ (.pointer (some ⟨hg, 0, none⟩))) wr.heap.size hg hv (ofF HQ.keyE L) :=
        ⟨hA.low, (hk8 hg (by omega)).trans hA.at_, hA.row.grown (row := some r) ⟨rfl, rfl, rfl, by simp, fun j _ hj => hk8 j (fun e => hj (by rw [e]))⟩ (.inr (hne7 r (by omega))), hA.ne⟩
      have hcl : cg < wr.heap.size ∧ cb < wr.heap.size := by omega
      have hsz : (w7.setCell ⟨r, 3, none⟩ (.pointer (some ⟨hg, 0, none⟩))).heap.size = w7.heap.size := by simp
      rcases hids with h0 | ⟨h1, h2, h3⟩
      · refine ⟨r, r, cg, cb, hg, hv, ofF HQ.keyE L, rfl, ⟨hr8, .inl h0, hC7.kept (hk8 cg (by omega)) (hk8 cb (by omega)), hA8.lower (by omega), ⟨by omega, by omega, by omega⟩, by omega, by omega, by omega, by omega, by omega, hne7 r (by omega), hne7 cg hcl.1, hne7 cb hcl.2⟩, by omega, by rw [hsz]; omega, ofF_heap HQ.keyE L, fun l k' i h => ?_, by rw [ofF_length]; exact hLk, ?_⟩
        · obtain ⟨y, hy, g⟩ := hCv l k' i (paJ_some h).1 h
          exact ⟨y, (ofF_perm HQ.keyE L).mem_iff.2 hy, g⟩
        · exact hB8.setCell (p := ⟨r, 3, none⟩) hwr _
      · have hil := h2.lt
        refine ⟨r, ib, cg, cb, hg, hv, ofF HQ.keyE L, rfl, ⟨hr8, .inr ⟨h1, (h2.below hB8).kept (hk8 ib (by omega)), h3, by omega, by omega, by omega, by omega, hne7 ib (by omega)⟩, hC7.kept (hk8 cg (by omega)) (hk8 cb (by omega)), hA8.lower (by omega), ⟨by omega, by omega, by omega⟩, by omega, by omega, by omega, by omega, by omega, hne7 r (by omega), hne7 cg hcl.1, hne7 cb hcl.2⟩, h3, by rw [hsz]; omega, ofF_heap HQ.keyE L, fun l k' i h => ?_, by rw [ofF_length]; exact hLk, ?_⟩
        · obtain ⟨y, hy, g⟩ := hCv l k' i (paJ_some h).1 h
          exact ⟨y, (ofF_perm HQ.keyE L).mem_iff.2 hy, g⟩
        · exact hB8.setCell (p := ⟨r, 3, none⟩) hwr _
end Go.Proofs.YtjbdhakogbolkaaDoor
end
section
/- ChainBoth: the walk. -/
namespace Go.Proofs.YtjbdhakogbolkaaDoor.CH
open Go.RowKit Go.Joins Go.Sort
set_option linter.unusedVariables false
set_option linter.unusedSimpArgs false
set_option maxRecDepth 100000
theorem ret_i64 {a b : Int} (h : a = b) : Ending.returned (.int .i64 a) = .returned (.int .i64 b) := by rw [h]
/-- A number brought between lo and hi. -/
theorem within_any (n : Int) (lo hi : Nat) (h : lo ≤ hi) (hh : hi ≤ 4294967296) (w : World) :
    Calls Tryd.prog 19 #[.int .i64 n, .int .i64 (lo : Nat), .int .i64 (hi : Nat)] w fun e w' => ∃ k : Nat, lo ≤ k ∧ k ≤ hi ∧ e = .returned (.int .i64 k) ∧ w' = w := by
  have h1 : ((hi : Int) - lo + 1 == 0) = false := by simp; omega
  have t1 : n.tmod ((hi : Int) - lo + 1) < (hi : Int) - lo + 1 := Int.tmod_lt_of_pos _ (by omega)
  have t2 : -((hi : Int) - lo + 1) < n.tmod ((hi : Int) - lo + 1) := by
    have := Int.lt_tmod_of_pos n (b := (hi : Int) - lo + 1) (by omega)
    omega
  by_cases hp : n.tmod ((hi : Int) - lo + 1) < 0
  · go_enter Tryd.func19, Tryd.ntmps19
    go_wp2
    go_ret
    exact ⟨(lo + (n.tmod ((hi : Int) - lo + 1) + hi - lo + 1)).toNat, by omega, by omega, ret_i64 (by omega), rfl⟩
  · have hp' : 0 ≤ n.tmod ((hi : Int) - lo + 1) := by omega
    clear hp
    go_enter Tryd.func19, Tryd.ntmps19
    go_wp2
    go_ret
    exact ⟨(lo + n.tmod ((hi : Int) - lo + 1)).toNat, by omega, by omega, ret_i64 (by omega), rfl⟩
theorem INS.at_ {w : World} {a : Option Addr} {l : List Int} (h : INS w a l) {i : Nat} {r : Int} (hr : l[i]? = some r) : ∃ b off, a = some ⟨b, off, none⟩ ∧ w.cell? ⟨b, off + i, none⟩ = some (.int .i64 r) := by
  rcases h with rfl | ⟨b, off, rfl, hc⟩
  · simp at hr
  · exact ⟨b, off, rfl, hc i r hr⟩
theorem INS.below {w w' : World} {a : Option Addr} {l : List Int} (h : INS w a l) (hb : Below w.heap.size w w') : INS w' a l := by
  rcases h with h | ⟨b, off, rfl, hc⟩
  · exact .inl h
  · exact .inr ⟨b, off, rfl, fun i r hr => (hb.cell (World.block_lt_of_cell? w _ (hc i r hr))).trans (hc i r hr)⟩
theorem clamp_mid {i : Nat} (h : i ≤ 200) : (if ((i : Nat) : Int) < 0 then 0 else ((i : Nat) : Int)) = (i : Nat) ∧ (if (1048576 : Int) < (i : Nat) then 1048576 else ((i : Nat) : Int)) = (i : Nat) := by
  constructor
  · rw [if_neg (by omega)]
  · rw [if_neg (by omega)]
/-- Behind a number that was cut out its neighbours stand side by side. -/
theorem cut_next {inn : Nat → Bool} {n k : Nat} (hk : k < n) (hin : inn k = true) (h : 0 ≤ prevA inn n (k : Nat)) : nextA (cutP inn k) n (prevA inn n (k : Nat)) = nextA inn n (k : Nat) := by
  have e1 : prevA inn n (k : Nat) = numF n (dnG inn n k) := by unfold prevA; rw [has_in hk hin]; rfl
  have e2 : nextA inn n (k : Nat) = numF n (nxF inn n k) := by unfold nextA; rw [has_in hk hin]; rfl
  rw [e1] at h
  rw [e1, e2]
  unfold numF at h
  have hle := dn_le (inn := inn) (n := n) (i := k) (by omega)
  split at h
  · omega
  · rename_i hne
    have hlt : dnG inn n k < n := by omega
    have hi := dn_in (inn := inn) (n := n) (i := k) (by omega) hlt
    have hk2 : dnG inn n k ≠ k := by rcases dn_spec inn n k with ⟨h1, _⟩ | ⟨h1, _⟩ <;> omega
    have hc : cutP inn k (dnG inn n k) = true := by unfold cutP; rw [if_neg hk2]; exact hi
    rw [show numF n (dnG inn n k) = ((dnG inn n k : Nat) : Int) from if_neg hne]
    unfold nextA
    rw [has_in hlt hc, if_pos rfl, Int.toNat_natCast, nx_cut hk hin (by omega) (.inr hi) hk2, if_pos rfl]
theorem cut_prev {inn : Nat → Bool} {n k : Nat} (hk : k < n) (hin : inn k = true) (h : 0 ≤ nextA inn n (k : Nat)) : prevA (cutP inn k) n (nextA inn n (k : Nat)) = prevA inn n (k : Nat) := by
  have e1 : prevA inn n (k : Nat) = numF n (dnG inn n k) := by unfold prevA; rw [has_in hk hin]; rfl
  have e2 : nextA inn n (k : Nat) = numF n (nxF inn n k) := by unfold nextA; rw [has_in hk hin]; rfl
  rw [e2] at h
  rw [e1, e2]
  unfold numF at h
  have hle := nx_le (inn := inn) (n := n) (i := k) (by omega)
  split at h
  · omega
  · rename_i hne
    have hlt : nxF inn n k < n := by omega
    have hi := nx_in (inn := inn) (n := n) (i := k) (by omega) hlt
    have hk2 : nxF inn n k ≠ k := by
      have := (up_spec inn (n - (k + 1)) (k + 1)).1
      unfold nxF
      rw [if_neg (by omega)]
      omega
    have hc : cutP inn k (nxF inn n k) = true := by unfold cutP; rw [if_neg hk2]; exact hi
    rw [show numF n (nxF inn n k) = ((nxF inn n k : Nat) : Int) from if_neg hne]
    unfold prevA
    rw [has_in hlt hc, if_pos rfl, Int.toNat_natCast, dn_cut hk hin (by omega) (.inr hi) hk2, if_pos rfl]
theorem num_ge (n i : Nat) : -1 ≤ numF n (i : Nat) := by unfold numF; split <;> omega
theorem has_no {inn : Nat → Bool} {n k : Nat} (hk : k < n) (h : hasB inn n (k : Nat) = false) : inn k = false := by
  cases hi : inn k with
  | false => rfl
  | true => rw [has_in hk hi] at h; cases h
theorem has_yes {inn : Nat → Bool} {n k : Nat} (h : hasB inn n (k : Nat) = true) : inn k = true := by
  simp only [hasB, Bool.and_eq_true] at h
  exact h.2
end Go.Proofs.YtjbdhakogbolkaaDoor.CH
end
section
/- chain.All: its iterator's contract. -/
namespace Go.Proofs.YtjbdhakogbolkaaDoor.CH
open Go.RowKit Go.Shelf
open Go.Joins Go.Sort
attribute [local go_sem] Oper.semAt_some
set_option linter.unusedVariables false
set_option linter.unusedSimpArgs false
/-- What a round keeps: the iterator's box and the chain's two blocks. -/
def KpC (B g b : Nat) (X Y : World) : Prop := X.heap.size ≤ Y.heap.size ∧ Y.heap[B]? = X.heap[B]? ∧ Y.heap[g]? = X.heap[g]? ∧ Y.heap[b]? = X.heap[b]?
theorem KpC.refl (B g b : Nat) (X : World) : KpC B g b X X := ⟨Nat.le_refl _, rfl, rfl, rfl⟩
theorem KpC.trans {B g b : Nat} {X Y Z : World} (h : KpC B g b X Y) (k : KpC B g b Y Z) : KpC B g b X Z :=
  ⟨Nat.le_trans h.1 k.1, k.2.1.trans h.2.1, k.2.2.1.trans h.2.2.1, k.2.2.2.trans h.2.2.2⟩
theorem KpC.of_below {B g b : Nat} {X Y : World} (h : Below X.heap.size X Y) (h1 : B < X.heap.size) (h2 : g < X.heap.size) (h3 : b < X.heap.size) : KpC B g b X Y :=
  ⟨h.size, h.block _ h1, h.block _ h2, h.block _ h3⟩
theorem KpC.putObj {B g b : Nat} {w : World} (h1 : B < w.heap.size) (h2 : g < w.heap.size) (h3 : b < w.heap.size) (W : World) (l : Nat) (o o' : Obj) (hl : w.heap.size ≤ l) (h : W.heap[l]? = some o) (ho : o.isCells = false) (_hw : o.isWalk = false) : KpC B g b W (W.putObj l o') :=
  ⟨by simp, World.putObj_heap_other (by omega), World.putObj_heap_other (by omega), World.putObj_heap_other (by omega)⟩
theorem nx_up {inn : Nat → Bool} {n x : Nat} (hx : x < n) : nxF inn n x = upG inn (n - (x + 1)) (x + 1) := by unfold nxF; rw [if_neg (by omega)]
set_option maxRecDepth 100000 in
set_option maxHeartbeats 2000000 in
theorem all1_in (n0 : Nat) (hn0 : 1 ≤ n0) (lp B g b n N : Nat) (inn : Nat → Bool) (cnt : Int) (J Jx : List Nat → World → Prop)
    (hN : (allG inn n 0).length ≤ N)
    (hJ : ∀ pre X Y, J pre X → Below X.heap.size X Y → J pre Y)
    (hY : ∀ pre x W, J pre W → pre.length < N → YieldAt Fence.wide (n0 - 1) Tryd.prog lp #[.int .i64 (x : Nat)] W fun e W' =>
      (e = .returned (.bool true) ∧ J (pre ++ [x]) W' ∧ KpC B g b W W') ∨ (e = .returned (.bool false) ∧ Jx (pre ++ [x]) W'))
    (W : World) (hB : W.heap[B]? = some (.cells #[.pointer (some ⟨g, 0, none⟩)] 112 (0, 0))) (hC : Ch W g b n inn cnt) (h0 : J [] W) :
    CallsIn Fence.wide n0 Tryd.prog 87 #[.func (.yield lp) #[] #[], .pointer (some ⟨B, 0, none⟩)] W fun e W' => (∃ v, e = .returned v) ∧
      ((∃ ys, ys = allG inn n 0 ∧ J ys W') ∨ (∃ pre, pre <+: allG inn n 0 ∧ Jx pre W')) := by
  have HK := fun d os => (knot_any g b n cnt (grow (redrawn W d) os) (hC.own.below (below_regrown W d os)) hC.le).mono (R' := fun e w' => e = .returned (.int .i64 (n : Nat)) ∧ Below (grow (redrawn W d) os).heap.size (grow (redrawn W d) os) w') (by rintro e w' ⟨rfl, rfl⟩; exact ⟨rfl, Below.refl _ _⟩)
  obtain ⟨p, q, hL, hLk⟩ := hC.links
  have q0 := hLk.nx n (Nat.le_refl n) (.inl rfl)
  rw [show nxF inn n n = upG inn (n - 0) 0 by unfold nxF; rw [if_pos rfl]; rfl] at q0
  have c0 := (hL.at' (Nat.le_refl n)).2
  rw [q0] at c0
  have ho := hC.own
  unfold ChAt at ho
  have k0 := cell_regrown c0
  have k1 := cell_regrown ((cell_of_block ho (i := 0)).trans rfl)
  have k2 := cell_regrown ((cell_of_block hB (i := 0)).trans rfl)
  have in0 : 0 ≤ (n : Int) ∧ (n : Int) < (n : Int) + 1 := by omega
  have HB : Hid (W.heap[B]? = some (.cells #[.pointer (some ⟨g, 0, none⟩)] 112 (0, 0))) := hB
  clear q0 c0 hL hLk ho hB
  refine callsIn_of_wp Tryd.func87 rfl trivial ?_ rfl
  simp only [Tryd.ntmps87, List.size_toArray, List.length_cons, List.length_nil, Nat.reduceAdd, Nat.reduceSub, Array.replicate_succ, Array.replicate_zero, List.push_toArray, List.append_toArray, List.nil_append, List.cons_append]
  gi_wp2_with fail
  refine wpIn_region_quiet_below rfl (by kernel_rfl) (by kernel_rfl) ?_
  repeat (gi_big_quiet_step (fail))
  refine wpQuietIn_step (fun _ _ _ _ => trivial) (fun K hK => ?_)
  go_simp
  apply Exists.intro
  refine ⟨fun _ => ?_, hK _ ?_⟩
  · exact CallsIn.regrown_of (callsIn_wide.2 (HK _ _))
  clear hK K
  repeat (gi_big_quiet_step (fail))
  refine wpQuietIn_nil ?_
  intro W1 hw'
  have hb1 : Below W.heap.size W W1 := by
    obtain ⟨⟨dq, osq⟩, rfl⟩ := hw'
    exact below_regrown _ _ _
  clear hw' k0 k1 k2 HK
  have hBl : B < W.heap.size := (Array.getElem?_eq_some_iff.1 HB.out).1
  have hC1 := hC.below hb1
  have hB1 := (hb1.block B hBl).trans HB.out
  have hJ1 := hJ _ _ _ h0 hb1
  clear hb1 hC h0 HB
  gi_wp2_with fail
  gi_loopw [3] (fun i wr => ∃ (s : Nat) (pre : List Nat), s ≤ n ∧ i = .int .i64 (upG inn (n - s) s : Nat) ∧ allG inn n 0 = pre ++ allG inn (n - s) s ∧ J pre wr ∧ wr.heap[B]? = W1.heap[B]? ∧ Ch wr g b n inn cnt) (fun i _ => n - (intOf i).toNat)
  case atStart => exact ⟨0, [], Nat.zero_le _, rfl, rfl, hJ1, rfl, hC1⟩
  case round =>
    clear hJ1 hC1
    obtain ⟨s, pre, hs, rfl, he, hJs, hnx, hC⟩ := hrel
    have hB2 := hnx.trans hB1
    have HNX : Hid (wr.heap[B]? = W1.heap[B]?) := hnx
    have HK := knot_any g b n cnt wr hC.own hC.le
    have hup := up_spec inn (n - s) s
    rw [show s + (n - s) = n by omega] at hup
    have hall := all_up inn (n - s) s
    rw [show s + (n - s) = n by omega] at hall
    obtain ⟨x, hx⟩ : ∃ x, x = upG inn (n - s) s := ⟨_, rfl⟩
    rw [← hx] at hup hall ⊢
    have cB := (cell_of_block hB2 (i := 0)).trans rfl
    have HB2 : Hid (wr.heap[B]? = some (.cells #[.pointer (some ⟨g, 0, none⟩)] 112 (0, 0))) := hB2
    clear hx hnx hB2
    by_cases hlt : x < n
    · have hin := hup.2.2.1 hlt
      rw [if_pos hlt] at hall
      have HE : Hid (allG inn n 0 = (pre ++ [x]) ++ allG inn (n - (x + 1)) (x + 1)) := by
        show allG inn n 0 = _
        rw [he, hall, List.append_assoc]
        rfl
      have hp : pre.length < N := by
        have := congrArg List.length HE.out
        simp at this
        omega
      have dne : ((x : Int) != (n : Int)) = true := by simp; omega
      have HH := has_any g b n inn cnt (x : Nat) wr hC
      rw [has_in hlt hin] at HH
      have hxs := hup.1
      clear he hall hup
      gi_wp2_with fail
      refine ⟨trivial, (callsIn_wide.2 HK).mono ?_⟩
      rintro e w1 ⟨rfl, he⟩
      obtain rfl := he.symm
      clear HK
      gi_wp2_with fail
      refine ⟨trivial, (callsIn_wide.2 HH).mono ?_⟩
      rintro e w1 ⟨rfl, he⟩
      obtain rfl := he.symm
      clear HH
      gi_wp2_with fail
      obtain ⟨fn, tmps, assign, body, hy, hR⟩ := hY pre x wr hJs hp
      rw [hy]
      gi_wp2
      refine hR.mono ?_
      have hBlt := hC.lt
      rintro e W5 (⟨rfl, hJ5, hk5⟩ | ⟨rfl, hJx5⟩)
      · have hB5 := hk5.2.1.trans HB2.out
        have hC5 := hC.kept hk5.2.2.1 hk5.2.2.2
        obtain ⟨p, q, hL, hLk⟩ := hC5.links
        have q0 := hLk.nx x (by omega) (.inr hin)
        rw [nx_up hlt] at q0
        have c0 := (hL.at' (i := x) (by omega)).2
        rw [q0] at c0
        have ho := hC5.own
        unfold ChAt at ho
        have k1 := ((cell_of_block ho (i := 0)).trans rfl)
        have k2 := (cell_of_block hB5 (i := 0)).trans rfl
        have in0 : 0 ≤ (x : Int) ∧ (x : Int) < (n : Int) + 1 := by omega
        have hup2 := (up_spec inn (n - (x + 1)) (x + 1)).1
        clear q0 hL hLk ho hB5
        gi_wp2_with fail
        go_roundw
        case rel => exact ⟨x + 1, _, by omega, rfl, HE.out, hJ5, hk5.2.1.trans HNX.out, hC5⟩
        case measure => simp [intOf]; omega
      · gi_wp2
        refine bodyPost_ret (results_none rfl _ _ _) rfl ?_
        exact ⟨⟨_, rfl⟩, .inr ⟨_, ⟨_, HE.out.symm⟩, hJx5⟩⟩
    · obtain rfl : x = n := by omega
      rw [if_neg hlt, ] at hall
      rw [hall, List.append_nil] at he
      have HE : Hid (allG inn x 0 = pre) := he
      have dne : ((x : Int) != (x : Int)) = false := by simp
      clear he hall hup hlt
      gi_wp2_with fail
      refine ⟨trivial, (callsIn_wide.2 HK).mono ?_⟩
      rintro e w1 ⟨rfl, he⟩
      obtain rfl := he.symm
      gi_wp2_with fail
      go_end0
      exact ⟨⟨_, rfl⟩, .inl ⟨_, HE.out.symm, hJs⟩⟩
/-- chain.All: the chain is boxed. -/
theorem all_in (n0 : Nat) (g : Nat) (w : World) :
    CallsIn Fence.wide n0 Tryd.prog 71 #[.pointer (some ⟨g, 0, none⟩)] w fun e w' => e = .returned (.func (.func 87) #[] #[.pointer (some ⟨w.heap.size, 0, none⟩)]) ∧ w' = w.alloc (.cells #[.pointer (some ⟨g, 0, none⟩)] 112) := by
  refine callsIn_of_wp Tryd.func71 rfl trivial ?_ rfl
  simp only [Tryd.ntmps71, List.size_toArray, List.length_cons, List.length_nil, Nat.reduceAdd, Nat.reduceSub, Array.replicate_succ, Array.replicate_zero, List.push_toArray, List.append_toArray, List.nil_append, List.cons_append]
  gi_wp2
  go_ret
  exact ⟨rfl, rfl⟩
theorem all_stops (n0 : Nat) (hn0 : 1 ≤ n0) (B g b n : Nat) (inn : Nat → Bool) (cnt : Int) (w : World) (hB : w.heap[B]? = some (.cells #[.pointer (some ⟨g, 0, none⟩)] 112 (0, 0))) (hC : Ch w g b n inn cnt) :
    SeqStopsK Fence.wide n0 Tryd.prog 87 #[.pointer (some ⟨B, 0, none⟩)] (fun x : Nat => #[.int .i64 (x : Nat)]) (KpC B g b) (fun ys => ys = allG inn n 0) (fun pre => pre <+: allG inn n 0) (allG inn n 0).length w := fun l J Jx W hW hJ _ hY h0 =>
  all1_in n0 hn0 l B g b n _ inn cnt J Jx (Nat.le_refl _)
    (fun pre X Y hA hAB => hJ pre X Y none hA ⟨hAB.os, hAB.tape, hAB.output, hAB.size, fun k hk _ => hAB.block k hk⟩ (fun r e => by cases e))
    hY W ((hW.block B (Array.getElem?_eq_some_iff.1 hB).1).trans hB) (hC.below hW) h0
end Go.Proofs.YtjbdhakogbolkaaDoor.CH
end
section
/- chain.All: its iterator's contract, telling each number that it stands there. -/
namespace Go.Proofs.YtjbdhakogbolkaaDoor.CH
open Go.RowKit Go.Shelf
open Go.Joins Go.Sort
attribute [local go_sem] Oper.semAt_some
set_option linter.unusedVariables false
set_option linter.unusedSimpArgs false
set_option maxRecDepth 100000 in
set_option maxHeartbeats 2000000 in
theorem all2_in (n0 : Nat) (hn0 : 1 ≤ n0) (lp B g b n N : Nat) (inn : Nat → Bool) (cnt : Int) (J Jx : List Nat → World → Prop)
    (hN : (allG inn n 0).length ≤ N)
    (hJ : ∀ pre X Y, J pre X → Below X.heap.size X Y → J pre Y)
    (hY : ∀ pre x W, J pre W → (pre ++ [x]) <+: allG inn n 0 → YieldAt Fence.wide (n0 - 1) Tryd.prog lp #[.int .i64 (x : Nat)] W fun e W' =>
      (e = .returned (.bool true) ∧ J (pre ++ [x]) W' ∧ KpC B g b W W') ∨ (e = .returned (.bool false) ∧ Jx (pre ++ [x]) W'))
    (W : World) (hB : W.heap[B]? = some (.cells #[.pointer (some ⟨g, 0, none⟩)] 112 (0, 0))) (hC : Ch W g b n inn cnt) (h0 : J [] W) :
    CallsIn Fence.wide n0 Tryd.prog 87 #[.func (.yield lp) #[] #[], .pointer (some ⟨B, 0, none⟩)] W fun e W' => (∃ v, e = .returned v) ∧
      ((∃ ys, ys = allG inn n 0 ∧ J ys W') ∨ (∃ pre, pre <+: allG inn n 0 ∧ Jx pre W')) := by
  have HK := fun d os => (knot_any g b n cnt (grow (redrawn W d) os) (hC.own.below (below_regrown W d os)) hC.le).mono (R' := fun e w' => e = .returned (.int .i64 (n : Nat)) ∧ Below (grow (redrawn W d) os).heap.size (grow (redrawn W d) os) w') (by rintro e w' ⟨rfl, rfl⟩; exact ⟨rfl, Below.refl _ _⟩)
  obtain ⟨p, q, hL, hLk⟩ := hC.links
  have q0 := hLk.nx n (Nat.le_refl n) (.inl rfl)
  rw [show nxF inn n n = upG inn (n - 0) 0 by unfold nxF; rw [if_pos rfl]; rfl] at q0
  have c0 := (hL.at' (Nat.le_refl n)).2
  rw [q0] at c0
  have ho := hC.own
  unfold ChAt at ho
  have k0 := cell_regrown c0
  have k1 := cell_regrown ((cell_of_block ho (i := 0)).trans rfl)
  have k2 := cell_regrown ((cell_of_block hB (i := 0)).trans rfl)
  have in0 : 0 ≤ (n : Int) ∧ (n : Int) < (n : Int) + 1 := by omega
  have HB : Hid (W.heap[B]? = some (.cells #[.pointer (some ⟨g, 0, none⟩)] 112 (0, 0))) := hB
  clear q0 c0 hL hLk ho hB
  refine callsIn_of_wp Tryd.func87 rfl trivial ?_ rfl
  simp only [Tryd.ntmps87, List.size_toArray, List.length_cons, List.length_nil, Nat.reduceAdd, Nat.reduceSub, Array.replicate_succ, Array.replicate_zero, List.push_toArray, List.append_toArray, List.nil_append, List.cons_append]
  gi_wp2_with fail
  refine wpIn_region_quiet_below rfl (by kernel_rfl) (by kernel_rfl) ?_
  repeat (gi_big_quiet_step (fail))
  refine wpQuietIn_step (fun _ _ _ _ => trivial) (fun K hK => ?_)
  go_simp
  apply Exists.intro
  refine ⟨fun _ => ?_, hK _ ?_⟩
  · exact CallsIn.regrown_of (callsIn_wide.2 (HK _ _))
  clear hK K
  repeat (gi_big_quiet_step (fail))
  refine wpQuietIn_nil ?_
  intro W1 hw'
  have hb1 : Below W.heap.size W W1 := by
    obtain ⟨⟨dq, osq⟩, rfl⟩ := hw'
    exact below_regrown _ _ _
  clear hw' k0 k1 k2 HK
  have hBl : B < W.heap.size := (Array.getElem?_eq_some_iff.1 HB.out).1
  have hC1 := hC.below hb1
  have hB1 := (hb1.block B hBl).trans HB.out
  have hJ1 := hJ _ _ _ h0 hb1
  clear hb1 hC h0 HB
  gi_wp2_with fail
  gi_loopw [3] (fun i wr => ∃ (s : Nat) (pre : List Nat), s ≤ n ∧ i = .int .i64 (upG inn (n - s) s : Nat) ∧ allG inn n 0 = pre ++ allG inn (n - s) s ∧ J pre wr ∧ wr.heap[B]? = W1.heap[B]? ∧ Ch wr g b n inn cnt) (fun i _ => n - (intOf i).toNat)
  case atStart => exact ⟨0, [], Nat.zero_le _, rfl, rfl, hJ1, rfl, hC1⟩
  case round =>
    clear hJ1 hC1
    obtain ⟨s, pre, hs, rfl, he, hJs, hnx, hC⟩ := hrel
    have hB2 := hnx.trans hB1
    have HNX : Hid (wr.heap[B]? = W1.heap[B]?) := hnx
    have HK := knot_any g b n cnt wr hC.own hC.le
    have hup := up_spec inn (n - s) s
    rw [show s + (n - s) = n by omega] at hup
    have hall := all_up inn (n - s) s
    rw [show s + (n - s) = n by omega] at hall
    obtain ⟨x, hx⟩ : ∃ x, x = upG inn (n - s) s := ⟨_, rfl⟩
    rw [← hx] at hup hall ⊢
    have cB := (cell_of_block hB2 (i := 0)).trans rfl
    have HB2 : Hid (wr.heap[B]? = some (.cells #[.pointer (some ⟨g, 0, none⟩)] 112 (0, 0))) := hB2
    clear hx hnx hB2
    by_cases hlt : x < n
    · have hin := hup.2.2.1 hlt
      rw [if_pos hlt] at hall
      have HE : Hid (allG inn n 0 = (pre ++ [x]) ++ allG inn (n - (x + 1)) (x + 1)) := by
        show allG inn n 0 = _
        rw [he, hall, List.append_assoc]
        rfl
      have hp : pre.length < N := by
        have := congrArg List.length HE.out
        simp at this
        omega
      have dne : ((x : Int) != (n : Int)) = true := by simp; omega
      have HH := has_any g b n inn cnt (x : Nat) wr hC
      rw [has_in hlt hin] at HH
      have hxs := hup.1
      clear he hall hup
      gi_wp2_with fail
      refine ⟨trivial, (callsIn_wide.2 HK).mono ?_⟩
      rintro e w1 ⟨rfl, he⟩
      obtain rfl := he.symm
      clear HK
      gi_wp2_with fail
      refine ⟨trivial, (callsIn_wide.2 HH).mono ?_⟩
      rintro e w1 ⟨rfl, he⟩
      obtain rfl := he.symm
      clear HH
      gi_wp2_with fail
      obtain ⟨fn, tmps, assign, body, hy, hR⟩ := hY pre x wr hJs ⟨_, HE.out.symm⟩
      rw [hy]
      gi_wp2
      refine hR.mono ?_
      have hBlt := hC.lt
      rintro e W5 (⟨rfl, hJ5, hk5⟩ | ⟨rfl, hJx5⟩)
      · have hB5 := hk5.2.1.trans HB2.out
        have hC5 := hC.kept hk5.2.2.1 hk5.2.2.2
        obtain ⟨p, q, hL, hLk⟩ := hC5.links
        have q0 := hLk.nx x (by omega) (.inr hin)
        rw [nx_up hlt] at q0
        have c0 := (hL.at' (i := x) (by omega)).2
        rw [q0] at c0
        have ho := hC5.own
        unfold ChAt at ho
        have k1 := ((cell_of_block ho (i := 0)).trans rfl)
        have k2 := (cell_of_block hB5 (i := 0)).trans rfl
        have in0 : 0 ≤ (x : Int) ∧ (x : Int) < (n : Int) + 1 := by omega
        have hup2 := (up_spec inn (n - (x + 1)) (x + 1)).1
        clear q0 hL hLk ho hB5
        gi_wp2_with fail
        go_roundw
        case rel => exact ⟨x + 1, _, by omega, rfl, HE.out, hJ5, hk5.2.1.trans HNX.out, hC5⟩
        case measure => simp [intOf]; omega
      · gi_wp2
        refine bodyPost_ret (results_none rfl _ _ _) rfl ?_
        exact ⟨⟨_, rfl⟩, .inr ⟨_, ⟨_, HE.out.symm⟩, hJx5⟩⟩
    · obtain rfl : x = n := by omega
      rw [if_neg hlt, ] at hall
      rw [hall, List.append_nil] at he
      have HE : Hid (allG inn x 0 = pre) := he
      have dne : ((x : Int) != (x : Int)) = false := by simp
      clear he hall hup hlt
      gi_wp2_with fail
      refine ⟨trivial, (callsIn_wide.2 HK).mono ?_⟩
      rintro e w1 ⟨rfl, he⟩
      obtain rfl := he.symm
      gi_wp2_with fail
      go_end0
      exact ⟨⟨_, rfl⟩, .inl ⟨_, HE.out.symm, hJs⟩⟩
theorem all_G (n0 : Nat) (hn0 : 1 ≤ n0) (B g b n : Nat) (inn : Nat → Bool) (cnt : Int) (w : World) (hB : w.heap[B]? = some (.cells #[.pointer (some ⟨g, 0, none⟩)] 112 (0, 0))) (hC : Ch w g b n inn cnt) :
    SeqG Fence.wide n0 Tryd.prog 87 #[.pointer (some ⟨B, 0, none⟩)] (fun x : Nat => #[.int .i64 (x : Nat)]) (fun _ _ A A' => Below A.heap.size A A') (fun _ => KpC B g b) (fun pre x => (pre ++ [x]) <+: allG inn n 0) (fun ys _ => ys = allG inn n 0) (fun pre => pre <+: allG inn n 0) w := by
  intro l J Jx W hW hJ hJx hY h0
  refine (all2_in n0 hn0 l B g b n _ inn cnt (fun pre X => J W.heap.size pre X ∧ W.heap.size ≤ X.heap.size) (Jx W.heap.size) (Nat.le_refl _)
    (fun pre X Y hA hAB => ⟨hJ _ _ _ _ hA.1 hAB, Nat.le_trans hA.2 hAB.size⟩)
    (fun pre x W1 hj hp => (hY W.heap.size pre x W1 (Nat.le_refl _) hj.2 hj.1 hp).mono ?_) W ((hW.block B (Array.getElem?_eq_some_iff.1 hB).1).trans hB) (hC.below hW) ⟨h0 _ (Nat.le_refl _), Nat.le_refl _⟩).mono ?_
  · rintro e W' ⟨_, ⟨rfl, h1, h2⟩ | ⟨rfl, h1⟩⟩
    · exact .inl ⟨rfl, ⟨h1, Nat.le_trans hj.2 h2.1⟩, h2⟩
    · exact .inr ⟨rfl, h1⟩
  · rintro e W' ⟨hv, ⟨ys, h1, h2⟩ | ⟨pre, h1, h2⟩⟩
    · exact ⟨hv, _, Nat.le_refl _, .inl ⟨ys, h1, h2.1⟩⟩
    · exact ⟨hv, _, Nat.le_refl _, .inr ⟨pre, h1, h2⟩⟩
end Go.Proofs.YtjbdhakogbolkaaDoor.CH
end
section
/- A drawn region in a round of a wide fence: the laws of the plain walk serve it, where it defers nothing. The proof goes by the library's own: an operation that defers nothing is carried out in a round as everywhere. -/
namespace Go.Proofs.YtjbdhakogbolkaaDoor
open Go Go.RowKit
theorem rows_wide {n : Nat} {P : Program} {row : String} {args : Array Value} {w : World} {R : Value → World → Prop} (h : Rows P row args w R) : RowsIn Fence.wide n P row args w R := by
  intro c cs _
  obtain ⟨v, w', h1, h2⟩ := h c cs
  exact ⟨v, w', h1, stepsIn_wide.2 h2⟩
theorem oper_wpIn_of {P : Program} {o : Oper} {a : Act} {w : World} {K : Act → World → Prop} {Q : Exit → Act → World → Prop} {l m : Nat} (hd : ∀ c, o.op ≠ Op.defer c) (h : o.wp P a w K Q) : o.wpIn (Fence.wide.inRound l) m P a w K Q := by
  refine ⟨fun _ _ => trivial, ?_⟩
  rw [Oper.semAt_plain _ _ _ hd]
  unfold Oper.wp at h
  generalize (execOp a.eval o).run P w = r at h ⊢
  cases r with
  | ok nx w' =>
    cases nx <;> first | exact h | exact ⟨fun h0 => by simp [Fence.wide, Fence.inRound] at h0, CallsIn.inRound l (callsIn_wide.2 h)⟩ | exact ⟨fun h0 => by simp [Fence.wide, Fence.inRound] at h0, rows_wide h⟩ | exact (show False from h).elim
  | halt hh w' =>
    cases hh <;> first | exact h | exact (show False from h).elim
theorem opsIn_of {P : Program} {ops : Array Oper} {Q : Exit → Act → World → Prop} {l m : Nat} (hd : ∀ (i : Nat) (o : Oper), ops[i]? = some o → ∀ c, o.op ≠ Op.defer c) (hL : ¬ LetsOut Q) : ∀ (is : List Nat) (a : Act) (w : World), wpOps P ops Q is a w → wpOpsIn (Fence.wide.inRound l) m P ops Q is a w
  | [], a, w, h => h
  | i :: is, a, w, h => by
    unfold wpOps at h
    unfold wpOpsIn
    cases ho : ops[i]? with
    | none => rw [ho] at h; exact opsIn_of hd hL is a w h
    | some o =>
      rw [ho] at h
      simp only at h ⊢
      split
      · rename_i hw
        rw [if_pos hw] at h
        rcases h with h | ⟨_, h⟩
        · exact oper_wpIn_of (hd i o ho) (Oper.wp_mono (fun a w h => opsIn_of hd hL is a w h) h)
        · exact absurd h hL
      · rename_i hw
        rw [if_neg hw] at h
        exact ⟨fun _ _ => trivial, opsIn_of hd hL is _ w h⟩
/-- THE LAW of held tails, in a round. -/
theorem wpIn_region_heldtail {P : Program} {Q : Exit → Act → World → Prop} {lp m : Nat} {id : Nat} {a : Act} {w : World} {l : List Oper} (n : Nat) (S : World → Prop) (hm : P.follows .mixedOrders = true) (hB : heldB .any l n = true)
    (hd : l.all (fun o => match o.op with | .defer _ => false | _ => true) = true) (hL : ¬ LetsOut Q)
    (h : HL P .any l.toArray Q S n (TailL P Q n l) n (Array.replicate l.length false) a w.drew) : (Code.region id l.toArray true).wpIn (Fence.wide.inRound lp) m P Q a w := by
  have hB' := hB
  unfold heldB at hB'
  simp only [Bool.and_eq_true, decide_eq_true_eq] at hB'
  refine wpIn_region_draw fun t => ?_
  refine opsIn_of (fun i o ho c e => ?_) hL _ a _ ?_
  · have h1 : o ∈ l := by
      have := List.mem_of_getElem? (by simpa using ho : l[i]? = some o)
      exact this
    have h2 := List.all_eq_true.1 hd o h1
    rw [e] at h2
    cases h2
  · simp only [Region.schedule, hm, Bool.true_or, if_true]
    refine wpAny_sound _ t _ a _ ?_
    have h1 := of_HL (g := l.length - n) (fun listed a w hl => by
      obtain ⟨rfl, h2⟩ := hl
      have := wpAny_of_seq (P := P) (md := .any) (ops := l.toArray) (Q' := Q) (l.drop n) n (Array.replicate n true ++ Array.replicate (l.length - n) false) a w (fun j => by simp) (by rw [List.length_drop]; exact hB'.2) h2
      rwa [List.length_drop] at this) n _ a w.drew h
    rw [show n + (l.length - n) = l.toArray.size by simp; omega] at h1
    simpa using h1
end Go.Proofs.YtjbdhakogbolkaaDoor
end
