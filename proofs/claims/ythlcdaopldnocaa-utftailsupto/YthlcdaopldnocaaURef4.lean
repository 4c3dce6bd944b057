/- The document's own answer: Replace: its contract. -/
import Derived.Test.YthlcdaopldnocaaURef2
namespace Go.Proofs.Ythlcdaopldnocaa
open Go.RowKit
open Go.Joins
set_option maxRecDepth 100000 in
set_option maxHeartbeats 1000000 in
theorem refreplace_any (s : ByteArray) (w : World) (hs : s.size ≤ 4294967296) : Calls Try.prog 26 #[.string s] w fun e w' => e = .returned (.string (textOf (replL (tl s)))) ∧ Below w.heap.size w w' := by
  go_enter Try.func26, Try.ntmps26
  go_wp2_with fail
  go_loopw [3, 4] (fun x i wr => ∃ (k : Nat) (out : List UInt8) (v : Value), v = x ∧ k ≤ s.size ∧ i = .int .i64 k ∧ OwnS wr w.heap.size v out ∧ Below w.heap.size w wr ∧ replL (tl s) = out ++ replL ((tl s).drop k) ∧ out.length ≤ 3 * k) (fun _ i _ => s.size - (intOf i).toNat)
  case atStart => exact ⟨0, [], _, rfl, Nat.zero_le _, rfl, World.ownsRow_nil _ _ _ _, Below.refl _ _, rfl, Nat.le_refl _⟩
  case round =>
    obtain ⟨k, out, v, rfl, hk, rfl, ho, hb, he, hol⟩ := hrel
    have hl : ((tl s).drop k).length = s.size - k := by simp
    by_cases hlt : k < s.size
    · have hne : (tl s).drop k ≠ [] := fun h => by have := congrArg List.length h; simp at this; omega
      have HW := width_any s k hlt (by omega)
      rw [width_front _ hne] at HW
      have hle := front_le ((tl s).drop k)
      rw [hl] at hle
      rw [replL_cons _ hne] at he
      unfold stepL at he
      cases hw : (front ((tl s).drop k)).2 with
      | true =>
        have h1 := hle.2.2.1 hw
        rw [if_pos hw] at HW he
        rw [Nat.max_eq_left h1, List.drop_drop, ← List.append_assoc] at he
        have hle1 := hle.1
        have hle2 := hle.2.1
        generalize (front ((tl s).drop k)).1 = n at *
        have HE : Hid (replL (tl s) = (out ++ ((tl s).drop k).take n) ++ replL ((tl s).drop (k + n))) := he
        have htx : tl (s.extract k (k + n)) = ((tl s).drop k).take n := by rw [tl_extract, show k + n - k = n by omega]
        have hln : (((tl s).drop k).take n).length ≤ n := by simp; omega
        obtain ⟨v2, w3, hr2, ho2, hb2⟩ := run_own_text _ _ _ out (s.extract k (k + n)) ho hb.size (by simp; omega)
        rw [show (s.extract k (k + n)).data.toList = tl (s.extract k (k + n)) from rfl, htx] at ho2
        clear he hle hw hne hl htx
        go_wp2_with (first
          | (go_at_call 31; refine (HW _).mono ?_; rintro e w2 ⟨rfl, rfl⟩)
          | (at_builtin; refine wpList_append_run rfl (.tmp 15) (.tmp 21) 53 9 rfl _ _ rfl rfl v2 w3 hr2 ?_))
        go_roundw
        case rel => exact ⟨k + n, _, _, rfl, by omega, by go_num, ho2, hb.trans hb2, HE.out, by simp only [List.length_append]; omega⟩
        case measure => simp [intOf]; omega
      | false =>
        rw [if_neg (by rw [hw]; simp)] at HW he
        have HB := begins_any s k hlt (by omega)
        rw [begins_front _ hne hw] at HB
        rw [List.drop_drop, ← List.append_assoc] at he
        have hle1 := hle.1
        have hle2 := hle.2.1
        generalize (front ((tl s).drop k)).1 = n at *
        obtain ⟨v2, w3, hr2, ho2, hb2⟩ := run_own_bytes (wr.alloc (.cells (cellsOf [239, 191, 189]).toArray 5)) w.heap.size v out [239, 191, 189] (some ⟨wr.heap.size, 0, none⟩) 3 (ho.below ((Below.refl wr.heap.size wr).alloc (Nat.le_refl _) _) (Nat.le_refl _)) (BS.new wr [239, 191, 189] 5) (fun e => by cases e) (by have := hb.size; simp; omega) (by simp; omega)
        have hb3 : Below w.heap.size w w3 := (hb.alloc hb.size _).trans hb2
        have HE : Hid (replL (tl s) = (out ++ [239, 191, 189]) ++ replL ((tl s).drop (k + max n 1))) := he
        have hr3 : (Builtin.append_ #[53, 53] 53 #[v, .slice (some ⟨wr.heap.size, 0, none⟩) 3 3]).run Try.prog (wr.alloc (.cells #[.int .u8 239, .int .u8 191, .int .u8 189] 5)) = .ok v2 w3 := hr2
        clear he hle hw hne hl hb2 hr2
        rcases Nat.eq_zero_or_pos n with rfl | hn1
        · go_wp2_with (first
            | (go_at_call 31; refine (HW _).mono ?_; rintro e w2 ⟨rfl, rfl⟩)
            | (go_at_call 33; refine (HB _).mono ?_; rintro e w2 ⟨rfl, rfl⟩)
            | (at_builtin; refine wpList_append_run rfl (.tmp 31) (.tmp 32) 53 53 rfl _ _ rfl rfl v2 w3 hr3 ?_))
          go_roundw
          case rel => exact ⟨k + 1, _, _, rfl, by omega, by go_num, ho2, hb3, HE.out, by simp; omega⟩
          case measure => simp [intOf]; omega
        · have hmx : max n 1 = n := by omega
          rw [hmx] at HE
          have hz : ((n : Int) == 0) = false := by simp; omega
          clear hmx
          go_wp2_with (first
            | (go_at_call 31; refine (HW _).mono ?_; rintro e w2 ⟨rfl, rfl⟩)
            | (go_at_call 33; refine (HB _).mono ?_; rintro e w2 ⟨rfl, rfl⟩)
            | (at_builtin; refine wpList_append_run rfl (.tmp 31) (.tmp 32) 53 53 rfl _ _ rfl rfl v2 w3 hr3 ?_))
          go_roundw
          case rel => exact ⟨k + n, _, _, rfl, by omega, by go_num, ho2, hb3, HE.out, by simp; omega⟩
          case measure => simp [intOf]; omega
    · obtain rfl : k = s.size := by omega
      have hd0 : (tl s).drop s.size = [] := by rw [← tl_len, List.drop_length]
      rw [hd0, replL_nil, List.append_nil] at he
      have HE : Hid (replL (tl s) = out) := he
      have hcv := ho.text
      clear he hl hd0
      go_wp2_with fail
      go_ret
      exact ⟨by rw [HE.out]; rfl, hb⟩
end Go.Proofs.Ythlcdaopldnocaa
