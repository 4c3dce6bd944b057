/- utf.Tail: its contract. -/
import Derived.Test.YthlcdaopldnocabUItem
namespace Go.Proofs.Ythlcdaopldnocab
open Go.RowKit
/-- What Tail answers, from length 4 - f on. -/
def tf (l : List UInt8) : Nat → Nat
  | 0 => 0
  | f + 1 => if 3 - f ≤ l.length then (if front (l.drop (l.length - (3 - f))) = (3 - f, false) then 3 - f else tf l f) else 0
def tailL (l : List UInt8) : Nat := tf l 3
theorem tl_extract (s : ByteArray) (a b : Nat) : tl (s.extract a b) = ((tl s).drop a).take (b - a) := by
  simp [tl, List.take_drop]
theorem tail_any (s : ByteArray) (w : World) (hs : s.size ≤ 9223372036854775807) : Calls Try.prog 5 #[.string s] w fun e w' => e = .returned (.int .i64 (tailL (tl s) : Nat)) ∧ w' = w := by
  go_enter Try.func5, Try.ntmps5
  go_wp2_with fail
  go_loop [3] (fun i => ∃ k : Nat, 1 ≤ k ∧ k ≤ 4 ∧ i = .int .i64 k ∧ tailL (tl s) = tf (tl s) (4 - k)) (fun i => 4 - (intOf i).toNat)
  case atStart => exact ⟨1, by omega, by omega, rfl, rfl⟩
  case round =>
    obtain ⟨k, hk1, hk4, rfl, ht⟩ := hrel
    by_cases hk : k ≤ 3
    · by_cases hl : k ≤ s.size
      · obtain ⟨f, hf⟩ : ∃ f, 4 - k = f + 1 := ⟨3 - k, by omega⟩
        rw [hf] at ht
        unfold tf at ht
        rw [show 3 - f = k by omega, tl_len, if_pos hl] at ht
        have HF := front_any (s.extract (s.size - k) s.size)
        rw [tl_extract, List.take_of_length_le (by simp)] at HF
        have HS : (s.extract (s.size - k) s.size).size ≤ 9223372036854775807 := by simp; omega
        by_cases hfr : front ((tl s).drop (s.size - k)) = (k, false)
        · rw [if_pos hfr] at ht
          rw [hfr] at HF
          have HT : Hid (tailL (tl s) = k) := ht
          clear hfr ht
          go_wp2_with (go_at_call 15; refine (HF _ HS).mono ?_; rintro e w1 ⟨rfl, rfl⟩)
          go_ret
          exact ⟨(by rw [HT.out]; rfl), rfl⟩
        · rw [if_neg hfr] at ht
          have HT : Hid (tailL (tl s) = tf (tl s) (4 - (k + 1))) := by rw [ht, show 4 - (k + 1) = f by omega]; exact rfl
          clear ht hf
          obtain ⟨⟨n, b⟩, hr⟩ : ∃ r, r = front ((tl s).drop (s.size - k)) := ⟨_, rfl⟩
          rw [← hr] at HF hfr
          clear hr
          by_cases hn : n = k
          · subst hn
            have hb : b = true := by cases b <;> simp_all
            subst hb
            clear hfr
            go_wp2_with (go_at_call 15; refine (HF _ HS).mono ?_; rintro e w1 ⟨rfl, rfl⟩)
            go_round
            case rel => exact ⟨n + 1, by omega, by omega, by go_num, HT.out⟩
            case measure => simp [intOf]; omega
          · have hn' : ((n : Int) == (k : Int)) = false := by simp; omega
            clear hfr hn
            go_wp2_with (go_at_call 15; refine (HF _ HS).mono ?_; rintro e w1 ⟨rfl, rfl⟩)
            go_round
            case rel => exact ⟨k + 1, by omega, by omega, by go_num, HT.out⟩
            case measure => simp [intOf]; omega
      · have HT : Hid (tailL (tl s) = 0) := by
          rw [ht]
          obtain ⟨f, hf⟩ : ∃ f, 4 - k = f + 1 := ⟨3 - k, by omega⟩
          rw [hf]
          unfold tf
          rw [show 3 - f = k by omega, tl_len, if_neg hl]
          exact rfl
        clear ht
        have hd : decide ((k : Int) ≤ s.size) = false := by simp; omega
        go_wp2_with fail
        go_ret
        exact ⟨(by rw [HT.out]; rfl), rfl⟩
    · have HT : Hid (tailL (tl s) = 0) := by
        rw [ht, show 4 - k = 0 by omega]
        exact rfl
      clear ht
      go_wp2_with fail
      go_ret
      exact ⟨(by rw [HT.out]; rfl), rfl⟩
end Go.Proofs.Ythlcdaopldnocab
