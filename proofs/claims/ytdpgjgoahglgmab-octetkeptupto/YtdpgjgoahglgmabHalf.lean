/- octet.halfSteps: its table is the four steps of each half byte. -/
import Derived.Test.YtdpgjgoahglgmabRows
import Derived.Test.YtdpgjgoahglgmabCrc
import Derived.WalkKit
import Derived.ProofKit
import Derived.WalkSpells
import Derived.WalkLawsBesides
import Derived.Deep.QuietTactic
import Derived.BigQuiet
namespace Go.Proofs.Ytdpgjgoahglgmab
open Go.RowKit
set_option maxHeartbeats 800000 in
theorem half_any (w : World) : Calls Try.prog 14 #[] w fun e w' => e = .returned (.agg tabL) ∧ Below w.heap.size w w' := by
  go_enter Try.func14, Try.ntmps14
  go_wp2
  go_loopw [5] (fun i wr => ∃ (k : Nat) (T : Array Value), k ≤ 16 ∧ i = .int .i64 k ∧ T = tabA k ∧ wr = (w.alloc (.cells #[Value.int IntKind.u32 0, Value.int IntKind.u32 0, Value.int IntKind.u32 0, Value.int IntKind.u32 0,
          Value.int IntKind.u32 0, Value.int IntKind.u32 0, Value.int IntKind.u32 0, Value.int IntKind.u32 0,
          Value.int IntKind.u32 0, Value.int IntKind.u32 0, Value.int IntKind.u32 0, Value.int IntKind.u32 0,
          Value.int IntKind.u32 0, Value.int IntKind.u32 0, Value.int IntKind.u32 0, Value.int IntKind.u32 0] 41)).alloc (.cells T 41)) (fun i _ => 16 - (intOf i).toNat)
  case atStart => exact ⟨0, _, Nat.zero_le _, rfl, tabA_zero.symm, rfl⟩
  case round =>
    obtain ⟨k, T, hk, rfl, hT, rfl⟩ := hrel
    have HT : Hid (T = tabA k) := hT
    clear hT
    by_cases hlt : k < 16
    · go_wp2
      go_loop [3, 10] (fun n j => ∃ q : Nat, q ≤ 4 ∧ j = .int .i64 q ∧ ∃ m : Nat, n = .int .u32 m ∧ m = hsN q k) (fun _ j => 4 - (intOf j).toNat)
      case atStart => exact ⟨0, Nat.zero_le _, rfl, k, by go_num, rfl⟩
      case round =>
        obtain ⟨q, hq, rfl, m, rfl, hm⟩ := hrel
        have hb := hsN_lt q k (by omega)
        rw [← hm] at hb
        have HM : Hid (m = hsN q k) := hm
        clear hm
        by_cases hq4 : q < 4
        · by_cases hodd : m % 2 = 1
          · have hat := odd_in m hb hodd
            have HB : Hid (m < 4294967296) := hb
            clear hb
            go_wp2
            exact ⟨⟨q + 1, by omega, by go_num, _, int_eq (odd_out m HB.out hodd), by rw [HM.out]; rfl⟩, by simp [intOf]; omega⟩
          · have hat := even_in m hb hodd
            have HB : Hid (m < 4294967296) := hb
            clear hb
            go_wp2
            exact ⟨⟨q + 1, by omega, by go_num, _, int_eq (even_out m hodd), by rw [HM.out]; rfl⟩, by simp [intOf]; omega⟩
        · clear hb
          have hq4' : q = 4 := by omega
          subst hq4'
          have hsz : T.size = 16 := by rw [HT.out]; exact tabA_size k
          go_wp2
          exact ⟨⟨k + 1, _, by omega, by go_num, by rw [HT.out, HM.out]; exact tabA_set k hlt, rfl⟩, by simp [intOf]; omega⟩
    · have hk16 : k = 16 := by omega
      subst hk16
      have hT16 : T = tabL := HT.out.trans tabL_eq
      clear HT
      subst hT16
      unfold tabL
      go_wp2
      refine bodyPost_ret (v := .agg tabL) ?_ rfl ⟨rfl, ((Below.refl _ _).alloc (Nat.le_refl _) _).alloc (by simp) _⟩
      simp [results, Try.results14, go_sem, tabL]
end Go.Proofs.Ytdpgjgoahglgmab
