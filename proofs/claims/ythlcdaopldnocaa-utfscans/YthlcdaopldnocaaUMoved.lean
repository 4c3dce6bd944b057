/- The law's 'few', 'moved': their contracts. -/
import Derived.Test.YthlcdaopldnocaaUScanMath
import Derived.Test.YthlcdaopldnocaaUSame
import Derived.Test.YthlcdaopldnocaaURef3
namespace Go.Proofs.Ythlcdaopldnocaa
open Go.RowKit
open Go.Joins
theorem few_any (s : ByteArray) (n : Nat) (w : World) :
    Calls Try.prog 22 #[.string s, .int .i64 (n : Nat)] w fun e w' => ∃ t : ByteArray, t.size ≤ n ∧ e = .returned (.string t) ∧ w' = w := by
  by_cases h : n < s.size
  · go_enter Try.func22, Try.ntmps22
    go_wp2_with fail
    go_ret
    exact ⟨s.extract 0 n, by simp; omega, rfl, rfl⟩
  · go_enter Try.func22, Try.ntmps22
    go_wp2_with fail
    go_ret
    exact ⟨s, by omega, rfl, rfl⟩
/-- The slice that begins at a, wherever in a row, holds the items l. -/
def ITP (w : World) (a : Option Addr) (l : List It) : Prop := l = [] ∨ ∃ g off, a = some ⟨g, off, none⟩ ∧ ∀ i x, l[i]? = some x →
  w.cell? ⟨g, off + i * 4, none⟩ = some (.int .i64 (x.frm : Nat)) ∧ w.cell? ⟨g, off + i * 4 + 1, none⟩ = some (.int .i64 (x.bytes : Nat)) ∧ w.cell? ⟨g, off + i * 4 + 2, none⟩ = some (.int .i32 (x.rune : Nat)) ∧ w.cell? ⟨g, off + i * 4 + 3, none⟩ = some (.bool x.bad)
set_option maxRecDepth 100000 in
set_option maxHeartbeats 1000000 in
theorem moved_any (a : Option Addr) (cap d : Nat) (l : List It) (w : World) (hl : l.length ≤ 1048576) (hd : d ≤ 4294967296) (hf : ∀ x ∈ l, x.frm ≤ 4294967296) (h : ITP w a l) :
    Calls Try.prog 24 #[.slice a l.length cap, .int .i64 (d : Nat)] w fun e w' => ∃ v, e = .returned v ∧ OwnI 42 w' w.heap.size v (shiftI d l) ∧ Below w.heap.size w w' := by
  obtain ⟨i0, hi, hz0, hz1, hz2⟩ := info_parts info42
  obtain ⟨n, hn⟩ : ∃ n, n = l.length := ⟨_, rfl⟩
  have HN : Hid (n = l.length) := hn
  rw [← hn] at hl ⊢
  clear hn
  go_enter Try.func24, Try.ntmps24
  go_wp2_with fail
  go_loopw [5, 6] (fun x i wr => ∃ (k : Nat) (v : Value), v = x ∧ k ≤ n ∧ i = .int .i64 k ∧ OwnI 42 wr w.heap.size v (shiftI d (l.take k)) ∧ Below w.heap.size w wr) (fun _ i _ => n - (intOf i).toNat)
  case atStart => exact ⟨0, _, rfl, Nat.zero_le _, rfl, OwnI.nil _ _ _, Below.refl _ _⟩
  case round =>
    obtain ⟨k, v, rfl, hk, rfl, ho, hb⟩ := hrel
    by_cases hlt : k < n
    · have hkl : k < l.length := by rw [← HN.out]; exact hlt
      obtain ⟨x, hx⟩ : ∃ x, l[k]? = some x := ⟨l[k], List.getElem?_eq_getElem hkl⟩
      have hfx := hf x (List.mem_of_getElem? hx)
      rcases h with h | ⟨g, off, rfl, hc⟩
      · rw [h] at hkl; simp at hkl
      obtain ⟨x0, x1, x2, x3⟩ := hc k x hx
      rw [← hb.cell (World.block_lt_of_cell? w _ x0)] at x0
      rw [← hb.cell (World.block_lt_of_cell? w _ x1)] at x1
      rw [← hb.cell (World.block_lt_of_cell? w _ x2)] at x2
      rw [← hb.cell (World.block_lt_of_cell? w _ x3)] at x3
      have hts : shiftI d (l.take (k + 1)) = shiftI d (l.take k) ++ [⟨x.frm + d, x.bytes, x.rune, x.bad⟩] := by
        rw [List.take_add_one, hx]
        simp [shiftI]
      have hls : (shiftI d (l.take k)).length ≤ k := by simp [shiftI]; omega
      have HT : Hid (shiftI d (l.take (k + 1)) = shiftI d (l.take k) ++ [⟨x.frm + d, x.bytes, x.rune, x.bad⟩]) := hts
      clear hts hc hx hkl hf
      obtain ⟨W5, hW5⟩ : ∃ W5, W5 = wr.alloc (.cells (cellI ⟨x.frm + d, x.bytes, x.rune, x.bad⟩).toArray 42) := ⟨_, rfl⟩
      have hb5 : Below wr.heap.size wr W5 := by rw [hW5]; exact (Below.refl _ _).alloc (Nat.le_refl _) _
      have hwr := hb.size
      obtain ⟨v', w1, hr1, ho1, ht1⟩ := run_own_it 33 42 i0 _ Try.underlying33 hi hz0 hz1 hz2 rfl (W5.alloc (.cells (cellI ⟨x.frm + d, x.bytes, x.rune, x.bad⟩).toArray 42)) w.heap.size v (shiftI d (l.take k)) ⟨x.frm + d, x.bytes, x.rune, x.bad⟩ W5.heap.size 1 ((ho.below hb5 (Nat.le_refl _)).below ((Below.refl W5.heap.size W5).alloc (Nat.le_refl _) _) (Nat.le_refl _)) (World.alloc_heap_new W5 _) (by have := hb5.size; simp; omega) (by omega)
      have hb1 : Below w.heap.size w w1 := ((hb.trans (hb5.mono hwr)).alloc (Nat.le_trans hwr hb5.size) _).trans (ht1.below (by have := hb5.size; simp; omega))
      rw [← HT.out] at ho1
      rw [hW5] at hr1
      unfold cellI at hr1
      rw [World.size_alloc] at hr1
      clear ho ht1 hb5 hW5 HT
      go_wp2_with (at_builtin; refine wpList_append_run rfl (.tmp 23) (.tmp 25) 33 33 rfl _ _ rfl rfl v' w1 hr1 ?_)
      go_roundw
      case rel => exact ⟨k + 1, _, rfl, by omega, by go_num, ho1, hb1⟩
      case measure => simp [intOf]; omega
    · obtain rfl : k = n := by omega
      have HT : Hid (shiftI d (l.take k) = shiftI d l) := by
        show shiftI d (l.take k) = shiftI d l
        rw [List.take_of_length_le (by rw [← HN.out]; exact Nat.le_refl _)]
      go_wp2_with fail
      go_ret
      exact ⟨v, rfl, by rw [← HT.out]; exact ho, hb⟩
end Go.Proofs.Ythlcdaopldnocaa
