/- tesseraref1.Sum: its contract: the sum of the bytes, bit by bit. -/
import Derived.Test.YtdpgjgoahglgmaaRows
import Derived.Test.YtdpgjgoahglgmaaCrc
import Derived.Test.YtdpgjgoahglgmaaView
import Derived.WalkSpells
import Derived.WalkLawsBesides
import Derived.Deep.QuietTactic
import Derived.BigQuiet
namespace Go.Proofs.Ytdpgjgoahglgmaa
open Go.RowKit
/-- The register behind k of a byte's bits. -/
def mid (n c k : Nat) : Nat := hsN k (n ^^^ c) ^^^ (c / 2 ^ k)
theorem mid_zero (n c : Nat) : mid n c 0 = n := by
  unfold mid; simp only [hsN, Nat.pow_zero, Nat.div_one]; rw [Nat.xor_assoc, Nat.xor_self, Nat.xor_zero]
theorem mid_end (n c : Nat) (h : c < 256) : mid n c 8 = hsN 8 (n ^^^ c) := by
  unfold mid; rw [Nat.div_eq_of_lt (by omega), Nat.xor_zero]
theorem mid_lt (n c k : Nat) (hn : n < 4294967296) (h : c < 256) : mid n c k < 4294967296 := by
  have h1 : c / 2 ^ k ≤ c := Nat.div_le_self _ _
  exact Nat.xor_lt_two_pow (n := 32) (hsN_lt _ _ (Nat.xor_lt_two_pow (n := 32) hn (by omega))) (by omega)
theorem mid_succ (n c k : Nat) : mid n c (k + 1) = hs1 (mid n c k ^^^ (c / 2 ^ k % 2)) := by
  have h := split_xor (c / 2 ^ k) 1
  have h2 : hs1 (c / 2 ^ k / 2 ^ 1 * 2 ^ 1) = c / 2 ^ (k + 1) := by
    have := hsN_shift 1 (c / 2 ^ k / 2 ^ 1)
    rw [hsN_one] at this
    rw [this, Nat.pow_add, ← Nat.div_div_eq_div_mul]
  have h3 : mid n c k ^^^ (c / 2 ^ k % 2) = hsN k (n ^^^ c) ^^^ (c / 2 ^ k / 2 ^ 1 * 2 ^ 1) := by
    unfold mid
    rw [Nat.xor_assoc]
    congr 1
    rw [show c / 2 ^ k % 2 = c / 2 ^ k % 2 ^ 1 from rfl]
    generalize c / 2 ^ k = x at h ⊢
    calc x ^^^ x % 2 ^ 1 = ((x / 2 ^ 1 * 2 ^ 1) ^^^ (x % 2 ^ 1)) ^^^ x % 2 ^ 1 := by rw [← h]
      _ = _ := by rw [Nat.xor_assoc, Nat.xor_self, Nat.xor_zero]
  rw [h3, hs1_xor, h2]
  rfl
theorem hs1_bit (m d : Nat) (hd : d < 2) : hs1 (m ^^^ d) = if m % 2 = d then m / 2 else (m / 2) ^^^ 3988292384 := by
  have h1 := xor_mod2 m d
  have h2 : (m ^^^ d) / 2 = m / 2 := by
    have : (m ^^^ d) / 2 = m / 2 ^^^ d / 2 := Nat.xor_div_two
    rw [this, show d / 2 = 0 from by omega, Nat.xor_zero]
  unfold hs1
  rw [h1, h2]
  by_cases h : m % 2 = d
  · rw [if_neg (by omega), if_pos h]
  · rw [if_pos (by omega), if_neg h]
theorem ref_test (m c q : Nat) (hm : m < 4294967296) (hc : c < 256) : (bits BinOp.and IntKind.u32 (m : Int) 1 != bits BinOp.and IntKind.u32 ((c : Int) / 2 ^ q) 1) = !decide (m % 2 = c / 2 ^ q % 2) := by
  have h0 : c / 2 ^ q ≤ c := Nat.div_le_self _ _
  have e1 := u32_and_nat m 1 hm (by omega)
  have e2 := u32_and_nat (c / 2 ^ q) 1 (by omega) (by omega)
  rw [Nat.and_one_is_mod] at e1 e2
  have e3 : (c : Int) / 2 ^ q = ((c / 2 ^ q : Nat) : Int) := by
    rw [Int.natCast_ediv]; congr 1
  rw [e3, show (1 : Int) = ((1 : Nat) : Int) from rfl, e1, e2]
  generalize c / 2 ^ q % 2 = y
  generalize m % 2 = x
  by_cases h : x = y
  · subst h; simp
  · have h' : ¬ (x : Int) = (y : Int) := by omega
    simp [h, h']
theorem ref_yes (n m c q : Nat) (hm : m < 4294967296) (hc : c < 256) (e : m = mid n c q) (h : (bits BinOp.and IntKind.u32 (m : Int) 1 != bits BinOp.and IntKind.u32 ((c : Int) / 2 ^ q) 1) = true) :
    bits BinOp.xor IntKind.u32 ((m : Int) / 2) 3988292384 = (mid n c (q + 1) : Nat) := by
  rw [ref_test m c q hm hc] at h
  have h' : ¬ m % 2 = c / 2 ^ q % 2 := by simpa using h
  have e0 := xorp (m / 2) (by omega)
  rw [show (((m / 2 : Nat)) : Int) = (m : Int) / 2 from by omega] at e0
  rw [e0, mid_succ, ← e, hs1_bit _ _ (by omega), if_neg h']
theorem ref_no (n m c q : Nat) (hm : m < 4294967296) (hc : c < 256) (e : m = mid n c q) (h : (bits BinOp.and IntKind.u32 (m : Int) 1 != bits BinOp.and IntKind.u32 ((c : Int) / 2 ^ q) 1) = false) :
    (m : Int) / 2 = (mid n c (q + 1) : Nat) := by
  rw [ref_test m c q hm hc] at h
  have h' : m % 2 = c / 2 ^ q % 2 := by simpa using h
  rw [mid_succ, ← e, hs1_bit _ _ (by omega), if_pos h']
  omega
set_option maxHeartbeats 800000 in
theorem refsum_some (b off cap : Nat) (l : List UInt8) (w : World) (hlen : l.length ≤ 9223372036854775807) (hc : ∀ j, j < l.length → w.cell? ⟨b, off + j, none⟩ = some (.int .u8 ((l.getD j 0).toNat : Int))) :
    Calls Try.prog 22 #[.slice (some ⟨b, off, none⟩) l.length cap] w fun e w' => e = .returned (.int .u32 (crc l : Nat)) ∧ Below w.heap.size w w' := by
  go_enter Try.func22, Try.ntmps22
  go_wp2
  go_loop [3, 4] (fun r i => ∃ (k n : Nat), k ≤ l.length ∧ i = .int .i64 k ∧ r = .int .u32 n ∧ n = crcR 4294967295 (l.take k)) (fun _ i => l.length - (intOf i).toNat)
  case atStart => exact ⟨0, 4294967295, Nat.zero_le _, rfl, rfl, rfl⟩
  case round =>
    obtain ⟨k, n, hk, rfl, rfl, hn⟩ := hrel
    have hnb : n < 4294967296 := by rw [hn]; exact crcR_lt _ _ (by omega)
    by_cases hlt : k < l.length
    · obtain ⟨c, hcd⟩ : ∃ c : Nat, c = (l.getD k 0).toNat := ⟨_, rfl⟩
      have hcell := hc k hlt
      rw [← hcd] at hcell
      have hcb : c < 256 := by rw [hcd]; exact UInt8.toNat_lt _
      have HB : Hid (n < 4294967296) := hnb
      have HNext : Hid (hsN 8 (n ^^^ c) = crcR 4294967295 (l.take (k + 1))) := by
        rw [crcR_snoc _ _ _ hlt, ← hn, ← hcd]; exact rfl
      clear hn hcd hnb hc
      go_wp2
      go_loop [3, 5] (fun r j => ∃ (q m : Nat), q ≤ 8 ∧ j = .int .i64 q ∧ r = .int .u32 m ∧ m = mid n c q) (fun _ j => 8 - (intOf j).toNat)
      case atStart => exact ⟨0, n, Nat.zero_le _, rfl, rfl, (mid_zero n c).symm⟩
      case round =>
        obtain ⟨q, m, hq, rfl, rfl, hm⟩ := hrel
        have HM : Hid (m = mid n c q) := hm
        clear hm
        by_cases hq8 : q < 8
        · go_wp2
          · have ht : (bits BinOp.and IntKind.u32 (m : Int) 1 != bits BinOp.and IntKind.u32 ((c : Int) / 2 ^ q) 1) = true := by assumption
            have hm : m < 4294967296 := by rw [HM.out]; exact mid_lt n c q HB.out hcb
            exact ⟨⟨q + 1, _, by omega, by go_num, int_eq (ref_yes n m c q hm hcb HM.out ht), rfl⟩, by simp [intOf]; omega⟩
          · have ht : (bits BinOp.and IntKind.u32 (m : Int) 1 != bits BinOp.and IntKind.u32 ((c : Int) / 2 ^ q) 1) = false := by assumption
            have hm : m < 4294967296 := by rw [HM.out]; exact mid_lt n c q HB.out hcb
            exact ⟨⟨q + 1, _, by omega, by go_num, int_eq (ref_no n m c q hm hcb HM.out ht), rfl⟩, by simp [intOf]; omega⟩
        · have hq' : q = 8 := by omega
          subst hq'
          go_wp2
          exact ⟨⟨k + 1, _, by omega, by go_num, rfl, by rw [HM.out, mid_end n c hcb]; exact HNext.out⟩, by simp [intOf]; omega⟩
    · have hkl : k = l.length := by omega
      subst hkl
      rw [List.take_length] at hn
      have HB : Hid (n < 4294967296) := hnb
      have HN : Hid (n = crcR 4294967295 l) := hn
      clear hnb hn hc
      go_wp2
      go_ret
      refine ⟨?_, Below.refl _ _⟩
      have := u32_xor_nat 4294967295 n (by omega) HB.out
      rw [show IntKind.u32.max = ((4294967295 : Nat) : Int) from rfl, this, HN.out]
      rfl
theorem refsum_none (a : Option Addr) (cap : Nat) (w : World) :
    Calls Try.prog 22 #[.slice a 0 cap] w fun e w' => e = .returned (.int .u32 0) ∧ Below w.heap.size w w' := by
  go_enter Try.func22, Try.ntmps22
  go_wp2
  refine wp_loop_rounds 1 ?_
  rw [rounds_succ]
  go_wp2
  go_ret
  exact ⟨rfl, Below.refl _ _⟩
/-- THE CONTRACT: of any list of bytes. -/
theorem refsum_any (a : Option Addr) (cap : Nat) (l : List UInt8) (w : World) (hlen : l.length ≤ 9223372036854775807) (h : BS w a l) :
    Calls Try.prog 22 #[.slice a l.length cap] w fun e w' => e = .returned (.int .u32 (crc l : Nat)) ∧ Below w.heap.size w w' := by
  rcases h with rfl | ⟨b, off, rfl, hc⟩
  · exact refsum_none a cap w
  · exact refsum_some b off cap l w hlen hc
end Go.Proofs.Ytdpgjgoahglgmaa
