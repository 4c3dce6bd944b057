/- UtfKept: the walk. -/
import Derived.Test.YthlcdaopldnocabUKnown
import Derived.Test.YthlcdaopldnocabUEnd
import Derived.Test.YthlcdaopldnocabIBookKeep
import Derived.Test.YthlcdaopldnocabIBookApartWalk
namespace Go.Proofs.Ythlcdaopldnocab
open Go.RowKit Go.Sort
open Go.Joins
theorem BookInv.over {wx w1 : World} {base B : Nat} {vl vw : Value} {es : List Ent} {held : Int} (h : BookInv wx base B vl vw es held) (hB : base ≤ B) (hk : ∀ k, base ≤ k → k < wx.heap.size → w1.heap[k]? = wx.heap[k]?) : BookInv w1 base B vl vw es held :=
  have hi : ∀ {v : Value} {l : List It}, OwnI 29 wx base v l → OwnI 29 w1 base v l := fun {v l} ho => ho.kept fun g hg => by
    obtain ⟨h1, cur, hc⟩ := ho.block hg
    exact hk g h1 (Array.getElem?_eq_some_iff.1 hc).1
  ⟨h.at_.kept (hk B hB h.at_.lt), h.lists.kept fun g hg => hk g (h.lists.lt g hg).1 (h.lists.lt g hg).2, h.was.kept fun g hg => hk g (h.was.lt g hg).1 (h.was.lt g hg).2, fun e he => ⟨hi (h.ents e he).1, hi (h.ents e he).2⟩, h.two, h.pair⟩
theorem BookInv.fresh {wx w1 : World} {base B : Nat} {vl vw : Value} {es : List Ent} {held : Int} (h : BookInv wx base B vl vw es held) {v : Value} {L : List It} (hv : OwnI 29 w1 wx.heap.size v L) : ∀ e ∈ es, ∀ g, e.v.ownBlock = some g → v.ownBlock ≠ some g := by
  intro e he g hg hg'
  obtain ⟨_, cur, hc⟩ := (h.ents e he).1.block hg
  have := (hv.block hg').1
  have := (Array.getElem?_eq_some_iff.1 hc).1
  omega
theorem KeepPost.use {w w' : World} {base B : Nat} {vl vw v : Value} {es : List Ent} {l : List It} {held : Int} (h : KeepPost w base B vl vw es v l w') (hI : BookInv w base B vl vw es held) (hB : base ≤ B) (hb : base ≤ w.heap.size) :
    ∃ vl' vw' es' held', 0 < es'.length ∧ es'.length ≤ es.length + 1 ∧ BookInv w' base B vl' vw' es' held' ∧ Below base w w' := by
  obtain ⟨vl', vw', es', held', u, h1, h2, h3, h4⟩ := h
  refine ⟨vl', vw', es', held', h1, by have := h2.length_le; simpa using this, h3, h4.only.below (fun i hi => ?_) hb⟩
  rcases hi with rfl | hi | hi
  · exact hB
  · exact (hI.lists.lt i hi).1
  · exact (hI.was.lt i hi).1
theorem book_new (w : World) : BookInv (w.alloc (.cells #[.slice none 0 0, .slice none 0 0, .int .i64 0, .bool false] 36)) w.heap.size w.heap.size (.slice none 0 0) (.slice none 0 0) [] 0 :=
  ⟨heap_alloc_new w _, SRow.nil _ _, SRow.nil _ _, fun e he => (by simp at he), fun g hg => (by cases hg), List.Pairwise.nil⟩
theorem few_any (s : ByteArray) (n : Nat) (w : World) :
    Calls Try.prog 8 #[.string s, .int .i64 (n : Nat)] w fun e w' => ∃ t : ByteArray, t.size ≤ n ∧ e = .returned (.string t) ∧ w' = w := by
  by_cases h : n < s.size
  · go_enter Try.func8, Try.ntmps8
    go_wp2_with fail
    go_ret
    exact ⟨s.extract 0 n, by simp; omega, rfl, rfl⟩
  · go_enter Try.func8, Try.ntmps8
    go_wp2_with fail
    go_ret
    exact ⟨s, by omega, rfl, rfl⟩
set_option maxRecDepth 100000 in
set_option maxHeartbeats 4000000 in
theorem utfkept_walk (s0 : ByteArray) (w : World) : Calls Try.prog 4 #[.string s0] w fun e w' => e = .returned (.bool true) ∧ Below w.heap.size w w' := by
  go_enter Try.func4, Try.ntmps4
  go_wp2_with fail
  refine (few_any s0 300 _).mono ?_; rintro e w0 ⟨s, hs, rfl, he⟩
  obtain rfl := he.symm
  go_wp2_with fail
  refine (new_any _).mono ?_; rintro e w1 ⟨rfl, s1, hb1, z1⟩
  have hI0 := book_new w1
  have hs0 := s1.below ((Below.refl w1.heap.size w1).alloc (Nat.le_refl _) (.cells #[.slice none 0 0, .slice none 0 0, .int .i64 0, .bool false] 36)) (by omega)
  have hb0 := hb1.alloc hb1.size (.cells #[.slice none 0 0, .slice none 0 0, .int .i64 0, .bool false] 36)
  obtain ⟨B, hB⟩ : ∃ B, B = w1.heap.size := ⟨_, rfl⟩
  have HB : Hid (B = w.heap.size + 1) := hB.trans z1
  have hwB : w.heap.size < B := by omega
  rw [← hB] at hI0
  obtain ⟨W0, hW0⟩ : ∃ W0, W0 = w1.alloc (.cells #[.slice none 0 0, .slice none 0 0, .int .i64 0, .bool false] 36) := ⟨_, rfl⟩
  rw [← hW0] at hI0 hs0 hb0
  have HW : Hid (W0 = w1.alloc (.cells #[.slice none 0 0, .slice none 0 0, .int .i64 0, .bool false] 36)) := hW0
  clear hW0 s1 hb1 z1
  go_wp2_with fail
  rw [← hB, ← HW.out]
  clear hB HW
  go_loopw [5] (fun i wr => ∃ (m : Nat) (q h : List UInt8) (vl vw : Value) (es : List Ent) (held : Int), m ≤ s.size ∧ i = .int .i64 (m : Nat) ∧ h.length ≤ 3 ∧ h.length ≤ m ∧ q.take h.length = h ∧ SC wr w.heap.size q h.length m ∧ BookInv wr B B vl vw es held ∧ es.length ≤ m ∧ Below w.heap.size w wr) (fun i _ => s.size - (intOf i).toNat)
  case atStart => exact ⟨0, _, [], _, _, [], _, Nat.zero_le _, rfl, by simp, by simp, rfl, hs0, hI0, by simp, hb0⟩
  case round =>
    obtain ⟨m, q, h, vl, vw, es, held, hm, rfl, hh3, hhm, hq, hsc, hIr, hel, hB⟩ := hrel
    clear hs0 hI0 hb0
    have hsz : B ≤ wr.heap.size := Nat.le_of_lt hIr.at_.lt
    have H : Hid (q.take h.length = h) := hq
    clear hq
    by_cases hlt : m < s.size
    · go_wp2_with fail
      refine (put_any w.heap.size m q h s[m] wr H.out hh3 hhm (by omega) hsc).mono ?_; rintro e1 w1 ⟨v1, rfl, hv1, ⟨q1, t1, s1⟩, b1⟩
      obtain ⟨a1, c1, rfl⟩ := hv1.shape
      have hI1 := hIr.over (Nat.le_refl _) (fun k hk hlt => b1.2.2.2.2 k hlt (by omega))
      have hcl := compI_length (h ++ [s[m]]) (m - h.length)
      have hhl := heldL_three (h ++ [s[m]])
      rw [List.length_append, List.length_singleton] at hcl hhl
      have K1 := keep_any w1 B B vl vw es held a1 c1 _ hI1 (hv1.le hsz) (Nat.le_trans hsz b1.2.2.2.1) (by omega) (by omega) (hIr.fresh hv1)
      have hb1 := hB.trans (b1.below (B' := w.heap.size) (by omega) (by omega))
      have hsz1 : B ≤ w1.heap.size := Nat.le_trans hsz b1.2.2.2.1
      clear hv1 hIr hsc hB b1
      go_wp2_with fail
      refine K1.mono ?_; rintro e2 w2 ⟨rfl, hp2⟩
      obtain ⟨vl2, vw2, es2, held2, hpos2, hel2, hI2, hb2⟩ := hp2.use hI1 (Nat.le_refl _) hsz1
      have s2 := s1.below hb2 hwB
      have hB2 := hb1.trans (hb2.mono (by omega))
      have T1 : Hid (q1.take (heldL (h ++ [s[m]])).length = heldL (h ++ [s[m]])) := t1
      clear K1 hp2 hI1 s1 t1 hb1 hb2
      go_wp2_with fail
      go_roundw
      case rel => exact ⟨m + 1, q1, heldL (h ++ [s[m]]), vl2, vw2, es2, held2, by omega, by go_num, by omega, by omega, T1.out, s2, hI2, by omega, hB2⟩
      case measure => simp [intOf]; omega
    · obtain rfl : m = s.size := by omega
      go_wp2_with fail
      refine (end_any w.heap.size s.size h.length q wr hsc hhm hh3 (by omega)).mono ?_; rintro e1 w1 ⟨v1, rfl, hv1, s1, b1⟩
      obtain ⟨a1, c1, rfl⟩ := hv1.shape
      have hI1 := hIr.over (Nat.le_refl _) (fun k hk hlt => b1.2.2.2.2 k hlt (by omega))
      have hbl := badsAt_length h.length (s.size - h.length)
      have K1 := keep_any w1 B B vl vw es held a1 c1 _ hI1 (hv1.le hsz) (Nat.le_trans hsz b1.2.2.2.1) (by omega) (by omega) (hIr.fresh hv1)
      have hb1 := hB.trans (b1.below (B' := w.heap.size) (by omega) (by omega))
      have hsz1 : B ≤ w1.heap.size := Nat.le_trans hsz b1.2.2.2.1
      clear hv1 hIr hsc hB b1 s1 hbl
      go_wp2_with fail
      refine K1.mono ?_; rintro e2 w2 ⟨rfl, hp2⟩
      obtain ⟨vl2, vw2, es2, held2, hpos2, hel2, hI2, hb2⟩ := hp2.use hI1 (Nat.le_refl _) hsz1
      have hB2 := hb1.trans (hb2.mono (by omega))
      have hsz2 : B ≤ w2.heap.size := Nat.le_trans hsz1 hb2.size
      have A1 := apart_any w2 B B vl2 vw2 es2 held2 hI2 hpos2 (by omega) hsz2 (Nat.le_refl _)
      clear K1 hp2 hI1 hI2 hb1 hb2
      go_wp2_with fail
      refine A1.mono ?_; rintro e3 w3 ⟨rfl, hb3⟩
      have hB3 := hB2.trans (hb3.mono (by omega))
      clear A1 hB2 hb3
      go_wp2_with fail
      refine (known_any _).mono ?_; rintro e4 w4 ⟨rfl, hb4⟩
      go_wp2_with fail
      go_ret
      exact ⟨rfl, hB3.trans (hb4.mono hB3.size)⟩
end Go.Proofs.Ythlcdaopldnocab
