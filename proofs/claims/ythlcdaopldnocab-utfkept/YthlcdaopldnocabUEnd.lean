/- utf.Scanner's New, End: their contracts. -/
import Derived.Test.YthlcdaopldnocabUPut
namespace Go.Proofs.Ythlcdaopldnocab
open Go.RowKit Go.Sort
open Go.Joins
theorem new_any (w : World) : Calls Try.prog 9 #[] w fun e w' => e = .returned (.pointer (some ⟨w.heap.size, 0, none⟩)) ∧ SC w' w.heap.size [0, 0, 0, 0] 0 0 ∧ Below w.heap.size w w' ∧ w'.heap.size = w.heap.size + 1 := by
  go_enter Try.func9, Try.ntmps9
  go_wp2_with fail
  go_ret
  exact ⟨rfl, ⟨rfl, World.alloc_heap_new w _⟩, (Below.refl _ _).alloc (Nat.le_refl _) _, by simp⟩
set_option maxRecDepth 100000 in
set_option maxHeartbeats 1000000 in
theorem end_any (b n k : Nat) (q : List UInt8) (w : World) (h : SC w b q k n) (hk : k ≤ n) (h3 : k ≤ 3) (hn : n ≤ 9223372036854775807) :
    Calls Try.prog 12 #[.pointer (some ⟨b, 0, none⟩)] w fun e w' => ∃ v, e = .returned v ∧ OwnI 29 w' w.heap.size v (badsAt (n - k) k) ∧ SC w' b q 0 n ∧ But b w.heap.size w w' := by
  obtain ⟨i0, hi, hz0, hz1, hz2⟩ := info_parts info29
  have hb := h.lt
  have cw := h.wait
  have cc := h.count
  obtain ⟨p, hp⟩ : ∃ p, p = n - k := ⟨_, rfl⟩
  have hpk : n = p + k := by omega
  rw [← hp]
  subst hpk
  clear hp
  go_enter Try.func12, Try.ntmps12
  go_wp2_with fail
  go_quiet (fail)
  go_wp2_with fail
  go_loopw [3, 4] (fun x i wr => ∃ (j : Nat) (v : Value), v = x ∧ j ≤ k ∧ i = .int .i64 (p + j : Nat) ∧ OwnI 29 wr w.heap.size v (badsAt p j) ∧ Below w.heap.size w wr) (fun _ i _ => p + k - (intOf i).toNat)
  case atStart => exact ⟨0, _, rfl, Nat.zero_le _, rfl, OwnI.nil _ _ _, below_drewN (Below.refl _ _) nq⟩
  case round =>
    obtain ⟨j, v, rfl, hj, rfl, ho, hbr⟩ := hrel
    have hs := h.below hbr hb
    have cc := hs.count
    have hz := badsAt_snoc j p
    have hl := badsAt_length j p
    by_cases hlt : j < k
    · have hlt2 : p + j < p + k := by omega
      have HB := fun wx => badByte_any (p + j) wx
      have hwr := hbr.size
      clear cw
      go_wp2_with fail
      refine (HB _).mono ?_
      rintro e W5 ⟨rfl, hb5⟩
      obtain ⟨v', w1, hr1, ho1, ht1⟩ := run_own_it 25 29 i0 _ Try.underlying25 hi hz0 hz1 hz2 rfl (W5.alloc (.cells (cellI ⟨p + j, 1, 65533, true⟩).toArray 29)) w.heap.size v (badsAt p j) ⟨p + j, 1, 65533, true⟩ W5.heap.size 1 ((ho.below hb5 (Nat.le_refl _)).below ((Below.refl W5.heap.size W5).alloc (Nat.le_refl _) _) (Nat.le_refl _)) (World.alloc_heap_new W5 _) (by have := hb5.size; simp; omega) (by rw [hl]; omega)
      have hb1 : Below w.heap.size w w1 := ((hbr.trans (hb5.mono hwr)).alloc (Nat.le_trans hwr hb5.size) _).trans (ht1.below (by have := hb5.size; simp; omega))
      rw [← hz] at ho1
      unfold cellI at hr1
      unfold itv
      dsimp only
      clear ho ht1 hb5 hz hl cc
      go_wp2_with (at_builtin; refine wpList_append_run rfl (.tmp 22) (.tmp 25) 25 25 rfl _ _ rfl rfl v' w1 hr1 ?_)
      go_roundw
      case rel => exact ⟨j + 1, _, rfl, by omega, by go_num, ho1, hb1⟩
      case measure => simp [intOf]; omega
    · obtain rfl : j = k := by omega
      have cw := hs.wait
      have fw := hs.free 4
      clear hz hl
      go_wp2_with fail
      go_ret
      exact ⟨v, rfl, ho.but ((But.refl b wr.heap.size wr).setCell _ _) hb, hs.setWait 0, (But.of_below hbr).setCell _ _⟩
end Go.Proofs.Ythlcdaopldnocab
