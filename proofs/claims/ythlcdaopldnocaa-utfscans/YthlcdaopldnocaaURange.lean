/- UtfRange: the walk. -/
import Derived.Test.YthlcdaopldnocaaURangeMath
import Derived.Test.YthlcdaopldnocaaUValid
namespace Go.Proofs.Ythlcdaopldnocaa
open Go.RowKit Go.Lib
theorem ItAt.blk {W W' : World} {g i : Nat} {x : It} (h : ItAt W g i x) (e : W'.heap[g]? = W.heap[g]?) : ItAt W' g i x := by
  obtain ⟨h0, h1, h2, h3⟩ := h
  exact ⟨(World.cell?_of_block (w := W) (a := ⟨g, _, none⟩) e).trans h0, (World.cell?_of_block (w := W) (a := ⟨g, _, none⟩) e).trans h1, (World.cell?_of_block (w := W) (a := ⟨g, _, none⟩) e).trans h2, (World.cell?_of_block (w := W) (a := ⟨g, _, none⟩) e).trans h3⟩
set_option maxRecDepth 100000 in
theorem headIt_facts (k : Nat) (l : List UInt8) : (headIt k l).frm = k ∧ (headIt k l).bytes = wid l ∧ ((headIt k l).bad = true → (headIt k l).rune = 65533 ∧ (headIt k l).bytes = 1) ∧ ((headIt k l).bad = false → ¬ ((headIt k l).rune = 65533 ∧ (headIt k l).bytes = 1) ∧ tl (Utf8.encode ((headIt k l).rune : Nat)) = l.take (headIt k l).bytes) := by
  have hs := front_spec l
  have er := encode_rn l
  refine ⟨headIt_frm k l, headIt_bytes k l, ?_, ?_⟩
  · unfold headIt
    split
    · intro h'; cases h'
    · intro _; simp
  · unfold headIt
    split
    · rename_i hb
      intro _
      refine ⟨fun hh => ?_, by dsimp only; exact er hb⟩
      obtain ⟨h1, h2⟩ := hh
      simp only at h1 h2
      unfold rn at h1
      rw [if_pos h2] at h1
      have := bt_lt l 0
      omega
    · intro h'; cases h'
theorem decode_head (s : ByteArray) (i : Nat) (h : (tl s).drop i ≠ []) : (Utf8.decode s i).1 = (headIt i ((tl s).drop i)).rune ∧ (Utf8.decode s i).2 = (headIt i ((tl s).drop i)).bytes := by
  rw [decode_front s i h]
  unfold headIt
  split <;> exact ⟨rfl, rfl⟩
set_option maxRecDepth 100000 in
set_option maxHeartbeats 4000000 in
theorem utfrange_walk (s : ByteArray) (hs : s.size ≤ 1048576) (w : World) :
    Calls Try.prog 5 #[.string s] w fun e w' => e = .returned (.bool true) ∧ Below w.heap.size w w' := by
  have HLs := fun wx => list_any s (by omega) wx
  have hM := items_length (tl s) 0
  rw [tl_len] at hM
  obtain ⟨M, hMd⟩ : ∃ M, M = items 0 (tl s) := ⟨_, rfl⟩
  have HM : Hid (M = items 0 (tl s)) := hMd
  rw [← hMd] at HLs hM
  clear hMd
  go_enter Try.func5, Try.ntmps5
  go_wp2_with fail
  refine (HLs _).mono ?_; rintro e w1 ⟨v1, rfl, ho1, hb1⟩
  obtain ⟨a1, c1, rfl, i1, l1⟩ := ho1.its
  clear HLs ho1
  have i1' : M = [] ∨ ∃ g, a1 = some ⟨g, 0, none⟩ ∧ g < w1.heap.size ∧ ∀ i x, M[i]? = some x → ItAt w1 g i x := by
    rcases i1 with h | ⟨g, h1, h2⟩
    · exact .inl h
    · by_cases hn : M = []
      · exact .inl hn
      · obtain ⟨x, hx⟩ : ∃ x, M[0]? = some x := ⟨M[0]'(List.length_pos_iff.2 hn), List.getElem?_eq_getElem _⟩
        exact .inr ⟨g, h1, World.block_lt_of_cell? w1 _ (h2 0 x hx).1, h2⟩
  clear i1
  go_wp2_with fail
  go_loopw [5, 6] (fun i en wr => ∃ (pos : Nat) (pre : List It), pos ≤ s.size ∧ i = .int .i64 (pre.length : Nat) ∧ en = .int .i64 (pos : Nat) ∧ M = pre ++ items pos ((tl s).drop pos) ∧ wr.heap[w1.heap.size]? = some (.stringIter s pos) ∧ Below w1.heap.size w1 wr) (fun _ _ wr => s.size - wr.iterPos w1.heap.size)
  case atStart => exact ⟨0, [], Nat.zero_le _, rfl, rfl, HM.out, World.iter_heap _ _ _, (Below.refl _ _).alloc (Nat.le_refl _) _⟩
  case round =>
    obtain ⟨pos, pre, hp, rfl, rfl, he, hk, hB⟩ := hrel
    have hsz := hb1.size
    by_cases hlt : pos < s.size
    · have hne : (tl s).drop pos ≠ [] := fun h => by have := congrArg List.length h; simp at this; omega
      have hn := fun ty => run_next_any_at (P := Try.prog) wr w1.heap.size s pos ty hk hlt
      have hd := decode_pos s pos hlt
      have hh := decode_head s pos hne
      obtain ⟨f0, f1, f2, f3⟩ := headIt_facts pos ((tl s).drop pos)
      rw [items_cons pos _ hne, List.drop_drop, ← f1] at he
      have hk2 := iterAt_heap wr w1.heap.size s pos (pos + (Utf8.decode s pos).2) hk
      have hB2 := below_iterAt hB (k := w1.heap.size) (Nat.le_refl _) s (pos + (Utf8.decode s pos).2)
      rw [hh.1, hh.2] at hn
      rw [hh.2] at hd hk2 hB2
      generalize headIt pos ((tl s).drop pos) = x at *
      generalize wr.iterAt w1.heap.size s (pos + x.bytes) = W2 at *
      have hx : M[pre.length]? = some x := by rw [he, List.getElem?_append_right (Nat.le_refl _)]; simp
      have hlen : pre.length < M.length := (List.getElem?_eq_some_iff.1 hx).1
      rcases i1' with h | ⟨g, rfl, hg, hi⟩
      · rw [h] at hlen; simp at hlen
      obtain ⟨x0, x1, x2, x3⟩ := (hi _ x hx).blk (hB2.block g hg)
      have htx : tl (s.extract pos (pos + x.bytes)) = ((tl s).drop pos).take x.bytes := by rw [tl_extract, show pos + x.bytes - pos = x.bytes by omega]
      have HE : Hid (M = (pre ++ [x]) ++ items (pos + x.bytes) ((tl s).drop (pos + x.bytes))) := by rw [List.append_assoc]; exact he
      have q0 : decide (M.length ≤ pre.length) = false := by simp; omega
      obtain ⟨d1, d2⟩ := hd
      rw [f0] at x0
      cases hb : x.bad with
      | true =>
        obtain ⟨g1, g2⟩ := f2 hb
        rw [hb] at x3
        rw [g1] at x2 hn
        rw [g2] at x1 d2 HE
        clear f0 f1 f2 f3 hh he hi hne hx hb g1 htx
        go_wp2_with fail
        go_quiet (fail)
        go_wp2_with fail
        go_roundw
        case rel => exact ⟨pos + 1, pre ++ [x], by omega, by simp, by go_num, HE.out, by rw [← g2]; exact hk2, below_drewN hB2 nq⟩
        case measure => simp [World.iterPos, hk, hk2] <;> omega
      | false =>
        obtain ⟨g1, g2⟩ := f3 hb
        rw [hb] at x3
        have hq : ((Utf8.encode (x.rune : Nat)).toList == (s.extract pos (pos + x.bytes)).toList) = true := by
          rw [str_eq, g2, htx]; simp
        clear f0 f1 f2 f3 hh he hi hne hx hb htx g2
        by_cases hr : x.rune = 65533
        · have q1 : ((x.rune : Int) == 65533) = true := by simp; omega
          have q2 : ((x.bytes : Int) == 1) = false := by simp; omega
          clear g1 hr
          go_wp2_with fail
          go_quiet (fail)
          go_wp2_with fail
          go_roundw
          case rel => exact ⟨pos + x.bytes, pre ++ [x], by omega, by simp, by go_num, HE.out, hk2, below_drewN hB2 nq⟩
          case measure => simp [World.iterPos, hk, hk2] <;> omega
        · have q1 : ((x.rune : Int) == 65533) = false := by simp; omega
          clear g1 hr
          go_wp2_with fail
          go_quiet (fail)
          go_wp2_with fail
          go_roundw
          case rel => exact ⟨pos + x.bytes, pre ++ [x], by omega, by simp, by go_num, HE.out, hk2, below_drewN hB2 nq⟩
          case measure => simp [World.iterPos, hk, hk2] <;> omega
    · obtain rfl : pos = s.size := by omega
      have hd0 : (tl s).drop s.size = [] := by rw [← tl_len, List.drop_length]
      rw [hd0, items_nil, List.append_nil] at he
      have hn := fun ty => run_next_end_at (P := Try.prog) wr w1.heap.size s s.size ty hk hlt
      have HE : Hid (M = pre) := he
      have hml : M.length = pre.length := by rw [he]
      rw [hml]
      clear he hd0 hk hml i1' l1 hM
      go_wp2_with fail
      refine (known_any _).mono ?_; rintro e w9 ⟨rfl, hb9⟩
      go_wp2_with fail
      go_ret
      exact ⟨rfl, (hb1.trans (hB.mono hsz)).trans (hb9.mono (by have := hB.size; omega))⟩
end Go.Proofs.Ythlcdaopldnocaa
