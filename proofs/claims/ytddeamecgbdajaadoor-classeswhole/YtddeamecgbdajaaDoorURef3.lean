/- The document's own answer: Complete, Items, Tail, Replace: their contracts. -/
import Derived.Test.YtddeamecgbdajaaDoorURef2
import Derived.Test.YtddeamecgbdajaaDoorUHeld
import Derived.Test.YtddeamecgbdajaaDoorItRow
import Derived.RangeFuncBox
namespace Go.Proofs.YtddeamecgbdajaaDoor
open Go.RowKit
open Go.Joins
theorem info56 : (Tryd.prog.info? 56).map (fun i => (i.zero, i.size, i.bytes)) = some (some (.agg #[.int .i64 0, .int .i64 0, .int .i32 0, .bool false]), 4, 24) := by kernel_rfl
theorem OwnI.len {T : TypeId} {w : World} {base : Nat} {v : Value} {l : List It} (h : OwnI T w base v l) : ∃ a cap, v = .slice a l.length cap := by
  rcases h.1.2 with ⟨h1, h0⟩ | ⟨g, cap, cur, hv, _⟩
  · exact ⟨none, 0, by rw [h1, h0]⟩
  · exact ⟨_, _, hv⟩
set_option maxRecDepth 100000 in
set_option maxHeartbeats 1000000 in
theorem complete_any (s : ByteArray) (hs : s.size ≤ 4294967296) (w : World) :
    Calls Tryd.prog 47 #[.string s] w fun e w' => ∃ v, e = .returned (.tuple #[v, .int .i64 ((s.size - (heldL (tl s)).length : Nat) : Int)]) ∧ OwnI 56 w' w.heap.size v (compI 0 (tl s)) ∧ Below w.heap.size w w' := by
  obtain ⟨i0, hi, hz0, hz1, hz2⟩ := info_parts info56
  go_enter Tryd.func47, Tryd.ntmps47
  go_wp2_with fail
  go_loopw [4, 5] (fun x i wr => ∃ (k : Nat) (pre : List It) (v : Value), v = x ∧ k ≤ s.size ∧ i = .int .i64 k ∧ OwnI 56 wr w.heap.size v pre ∧ pre.length ≤ k ∧ compI 0 (tl s) = pre ++ compI k ((tl s).drop k) ∧ heldL (tl s) = heldL ((tl s).drop k) ∧ Below w.heap.size w wr) (fun _ i _ => s.size - (intOf i).toNat)
  case atStart => exact ⟨0, [], _, rfl, Nat.zero_le _, rfl, OwnI.nil _ _ _, Nat.le_refl _, rfl, rfl, Below.refl _ _⟩
  case round =>
    obtain ⟨k, pre, v, rfl, hk, rfl, ho, hpl, hc, hh, hb⟩ := hrel
    have hl : ((tl s).drop k).length = s.size - k := by simp
    by_cases hlt : k < s.size
    · have hne : (tl s).drop k ≠ [] := fun h => by have := congrArg List.length h; simp at this; omega
      have HW := width_any s k hlt (by omega)
      rw [width_front _ hne] at HW
      cases hw : (front ((tl s).drop k)).2 with
      | true =>
        rw [if_pos hw] at HW
        have HR := read_any s k hw (by omega)
        have hle := front_le ((tl s).drop k)
        have h1 := hle.2.2.1 hw
        rw [hl] at hle
        have hnh : ¬ isHeld ((tl s).drop k) = true := fun e => by rw [(isHeld_iff _).1 e] at hw; simp at hw
        have hwid : wid ((tl s).drop k) = (front ((tl s).drop k)).1 := by unfold wid; rw [if_pos hw]
        rw [compI_step _ _ hne hnh, hwid, List.drop_drop] at hc
        rw [heldL_step _ hne hnh, hwid, List.drop_drop] at hh
        unfold headIt at hc
        rw [if_pos hw] at hc
        clear hnh hwid hw hl
        obtain ⟨n, hn⟩ : ∃ n, n = (front ((tl s).drop k)).1 := ⟨_, rfl⟩
        obtain ⟨r, hr⟩ : ∃ r, r = rn ((tl s).drop k) := ⟨_, rfl⟩
        rw [← hn] at HW HR hle h1 hc hh
        rw [← hr] at HR hc
        clear hn hr
        have HC : Hid (compI 0 (tl s) = (pre ++ [⟨k, n, r, false⟩]) ++ compI (k + n) ((tl s).drop (k + n))) := by rw [List.append_assoc]; exact hc
        have HH : Hid (heldL (tl s) = heldL ((tl s).drop (k + n))) := hh
        clear hc hh hne
        obtain ⟨hle1, hle2, -, -⟩ := hle
        obtain ⟨v', w1, hr1, ho1, ht1⟩ := run_own_it 87 56 i0 _ Tryd.underlying87 hi hz0 hz1 hz2 rfl (wr.alloc (.cells (cellI ⟨k, n, r, false⟩).toArray 56)) w.heap.size v pre ⟨k, n, r, false⟩ wr.heap.size 1 (ho.below ((Below.refl wr.heap.size wr).alloc (Nat.le_refl _) _) (Nat.le_refl _)) (World.alloc_heap_new wr _) (by have := hb.size; simp; omega) (by omega)
        have hb1 : Below w.heap.size w w1 := (hb.alloc hb.size _).trans (ht1.below (by have := hb.size; simp; omega))
        unfold cellI at hr1
        clear ho ht1
        go_wp2_with (first
          | (go_at_call 53; refine (HW _).mono ?_; rintro e w2 ⟨rfl, rfl⟩)
          | (go_at_call 54; refine (HR _).mono ?_; rintro e w2 ⟨rfl, rfl⟩)
          | (at_builtin; refine wpList_append_run rfl (.tmp 16) (.tmp 24) 87 87 rfl _ _ rfl rfl v' w1 hr1 ?_))
        go_roundw
        case rel => exact ⟨k + n, _, _, rfl, by omega, by go_num, ho1, by simp; omega, HC.out, HH.out, hb1⟩
        case measure => simp [intOf]; omega
      | false =>
        rw [if_neg (by rw [hw]; simp)] at HW
        have HB := begins_any s k hlt (by omega)
        rw [begins_front _ hne hw] at HB
        have hle := (front_le ((tl s).drop k)).1
        rw [hl] at hle
        by_cases hd : isHeld ((tl s).drop k) = true
        · rw [compI_held _ _ hd, List.append_nil] at hc
          rw [heldL_held _ hd] at hh
          have hfe := (isHeld_iff _).1 hd
          rw [hfe, hl] at HB
          have HK : Hid (s.size - (heldL (tl s)).length = k) := by
            show s.size - (heldL (tl s)).length = k
            rw [hh, hl]; omega
          have HC : Hid (compI 0 (tl s) = pre) := hc
          have hq : (((s.size - k : Nat) : Int) == (s.size : Int) - k) = true := by simp; omega
          have hx : ((s.size - k : Nat) : Int) = (s.size : Int) - k := by omega
          rw [hx] at HB
          clear hc hh hd hfe hle hne hw hl hx hq
          go_wp2_with (first
            | (go_at_call 53; refine (HW _).mono ?_; rintro e w2 ⟨rfl, rfl⟩)
            | (go_at_call 55; refine (HB _).mono ?_; rintro e w2 ⟨rfl, rfl⟩))
          go_ret2
          exact ⟨v, by rw [HK.out]; rfl, by rw [HC.out]; exact ho, hb⟩
        · have hn : (front ((tl s).drop k)).1 ≠ s.size - k := fun e => hd ((isHeld_iff _).2 (by rw [hl, ← e, ← hw]))
          have hwid : wid ((tl s).drop k) = 1 := by unfold wid; rw [if_neg (by rw [hw]; simp)]
          rw [compI_step _ _ hne hd, hwid, List.drop_drop] at hc
          rw [heldL_step _ hne hd, hwid, List.drop_drop] at hh
          unfold headIt at hc
          rw [if_neg (by rw [hw]; simp)] at hc
          generalize (front ((tl s).drop k)).1 = n at *
          have HC : Hid (compI 0 (tl s) = (pre ++ [⟨k, 1, 65533, true⟩]) ++ compI (k + 1) ((tl s).drop (k + 1))) := by rw [List.append_assoc]; exact hc
          have HH : Hid (heldL (tl s) = heldL ((tl s).drop (k + 1))) := hh
          have hq : ((n : Int) == (s.size : Int) - k) = false := by simp; omega
          clear hc hh hd hne hw hl hn hwid
          obtain ⟨v', w1, hr1, ho1, ht1⟩ := run_own_it 87 56 i0 _ Tryd.underlying87 hi hz0 hz1 hz2 rfl (wr.alloc (.cells (cellI ⟨k, 1, 65533, true⟩).toArray 56)) w.heap.size v pre ⟨k, 1, 65533, true⟩ wr.heap.size 1 (ho.below ((Below.refl wr.heap.size wr).alloc (Nat.le_refl _) _) (Nat.le_refl _)) (World.alloc_heap_new wr _) (by have := hb.size; simp; omega) (by omega)
          have hb1 : Below w.heap.size w w1 := (hb.alloc hb.size _).trans (ht1.below (by have := hb.size; simp; omega))
          unfold cellI at hr1
          clear ho ht1
          go_wp2_with (first
            | (go_at_call 53; refine (HW _).mono ?_; rintro e w2 ⟨rfl, rfl⟩)
            | (go_at_call 55; refine (HB _).mono ?_; rintro e w2 ⟨rfl, rfl⟩)
            | (at_builtin; refine wpList_append_run rfl (.tmp 39) (.tmp 42) 87 87 rfl _ _ rfl rfl v' w1 hr1 ?_))
          go_roundw
          case rel => exact ⟨k + 1, _, _, rfl, by omega, by go_num, ho1, by simp; omega, HC.out, HH.out, hb1⟩
          case measure => simp [intOf]; omega
    · obtain rfl : k = s.size := by omega
      have hd0 : (tl s).drop s.size = [] := by rw [← tl_len, List.drop_length]
      rw [hd0, compI_nil, List.append_nil] at hc
      rw [hd0, heldL_nil] at hh
      have HK : Hid (s.size - (heldL (tl s)).length = s.size) := by
        show s.size - (heldL (tl s)).length = s.size
        rw [hh]; simp
      have HC : Hid (compI 0 (tl s) = pre) := hc
      clear hc hh hl hd0
      go_wp2_with fail
      go_ret2
      exact ⟨v, by rw [HK.out]; rfl, by rw [HC.out]; exact ho, hb⟩
set_option maxRecDepth 100000 in
set_option maxHeartbeats 1000000 in
theorem refitems_any (s : ByteArray) (hs : s.size ≤ 4294967296) (w : World) :
    Calls Tryd.prog 33 #[.string s] w fun e w' => ∃ v, e = .returned v ∧ OwnI 56 w' w.heap.size v (items 0 (tl s)) ∧ Below w.heap.size w w' := by
  obtain ⟨i0, hi, hz0, hz1, hz2⟩ := info_parts info56
  have HCo := complete_any s hs
  have hic := items_comp (tl s) 0
  have h3 := heldL_three (tl s)
  have hcl := compI_length (tl s) 0
  rw [tl_len] at hic h3 hcl
  rw [Nat.zero_add] at hic
  generalize (heldL (tl s)).length = hn at *
  go_enter Tryd.func33, Tryd.ntmps33
  go_wp2_with (go_at_call 47; refine (HCo _).mono ?_; rintro e w1 ⟨v, rfl, ho, hb⟩)
  obtain ⟨p, hp⟩ : ∃ p, p = s.size - hn := ⟨_, rfl⟩
  have HI : Hid (items 0 (tl s) = compI 0 (tl s) ++ badsAt p hn) := by rw [hp]; exact hic
  rw [← hp]
  have hp2 : p + hn = s.size := by omega
  clear hic hp
  go_loopw [3, 4] (fun x i wr => ∃ (k : Nat) (v : Value), v = x ∧ k ≤ hn ∧ i = .int .i64 (p + k : Nat) ∧ OwnI 56 wr w.heap.size v (compI 0 (tl s) ++ badsAt p k) ∧ Below w.heap.size w wr) (fun _ i _ => s.size - (intOf i).toNat)
  case atStart => exact ⟨0, _, rfl, Nat.zero_le _, rfl, by rw [badsAt, List.append_nil]; exact ho, hb⟩
  case round =>
    obtain ⟨k, v, rfl, hk, rfl, ho, hb⟩ := hrel
    have hz := badsAt_snoc k p
    have hbl := badsAt_length k p
    by_cases hlt : k < hn
    · have hlt2 : p + k < s.size := by omega
      obtain ⟨v', w1, hr1, ho1, ht1⟩ := run_own_it 87 56 i0 _ Tryd.underlying87 hi hz0 hz1 hz2 rfl (wr.alloc (.cells (cellI ⟨p + k, 1, 65533, true⟩).toArray 56)) w.heap.size v (compI 0 (tl s) ++ badsAt p k) ⟨p + k, 1, 65533, true⟩ wr.heap.size 1 (ho.below ((Below.refl wr.heap.size wr).alloc (Nat.le_refl _) _) (Nat.le_refl _)) (World.alloc_heap_new wr _) (by have := hb.size; simp; omega) (by rw [List.length_append, hbl]; omega)
      rw [List.append_assoc, ← hz] at ho1
      have hb1 : Below w.heap.size w w1 := (hb.alloc hb.size _).trans (ht1.below (by have := hb.size; simp; omega))
      unfold cellI at hr1
      clear ho ht1 hz hbl
      go_wp2_with (at_builtin; refine wpList_append_run rfl (.tmp 14) (.tmp 17) 87 87 rfl _ _ rfl rfl v' w1 hr1 ?_)
      go_roundw
      case rel => exact ⟨k + 1, _, rfl, by omega, by go_num, ho1, hb1⟩
      case measure => simp [intOf]; omega
    · obtain rfl : k = hn := by omega
      clear hz hbl
      go_wp2_with fail
      go_ret
      exact ⟨v, rfl, by rw [HI.out]; exact ho, hb⟩
end Go.Proofs.YtddeamecgbdajaaDoor
