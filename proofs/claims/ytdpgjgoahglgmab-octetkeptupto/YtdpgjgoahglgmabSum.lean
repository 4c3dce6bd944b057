/- octet.Sum: its contract: the sum of the bytes; only new memory is made. -/
import Derived.Test.YtdpgjgoahglgmabHalf
import Derived.Test.YtdpgjgoahglgmabView
namespace Go.Proofs.Ytdpgjgoahglgmab
open Go.RowKit
theorem sum_step (x : Nat) : hsN 8 x = ((x / 16 ^^^ hsN 4 (x % 16)) / 16) ^^^ hsN 4 ((x / 16 ^^^ hsN 4 (x % 16)) % 16) := by
  rw [show (8 : Nat) = 4 + 4 from rfl, hsN_add, ← hs4 x, ← hs4]
theorem half_lit (w : World) : Calls Try.prog 14 #[] w fun e w' => e = .returned (.agg #[Value.int IntKind.u32 0x00000000, Value.int IntKind.u32 0x1db71064, Value.int IntKind.u32 0x3b6e20c8, Value.int IntKind.u32 0x26d930ac, Value.int IntKind.u32 0x76dc4190, Value.int IntKind.u32 0x6b6b51f4, Value.int IntKind.u32 0x4db26158, Value.int IntKind.u32 0x5005713c, Value.int IntKind.u32 0xedb88320, Value.int IntKind.u32 0xf00f9344, Value.int IntKind.u32 0xd6d6a3e8, Value.int IntKind.u32 0xcb61b38c, Value.int IntKind.u32 0x9b64c2b0, Value.int IntKind.u32 0x86d3d2d4, Value.int IntKind.u32 0xa00ae278, Value.int IntKind.u32 0xbdbdf21c]) ∧ Below w.heap.size w w' := half_any w
set_option maxHeartbeats 800000 in
theorem sum_some (b off cap : Nat) (l : List UInt8) (w : World) (hlen : l.length ≤ 9223372036854775807) (hc : ∀ j, j < l.length → w.cell? ⟨b, off + j, none⟩ = some (.int .u8 ((l.getD j 0).toNat : Int))) :
    Calls Try.prog 13 #[.slice (some ⟨b, off, none⟩) l.length cap] w fun e w' => e = .returned (.int .u32 (crc l : Nat)) ∧ Below w.heap.size w w' := by
  go_enter Try.func13, Try.ntmps13
  go_wp2_with (go_at_call 14; refine (half_lit _).mono ?_; rintro e w1 ⟨rfl, hb1⟩)
  obtain ⟨W, hW⟩ : ∃ W, W = w1.alloc (.cells tabL 41) := ⟨_, rfl⟩
  have hT : ∀ m, m < 16 → W.cell? ⟨w1.heap.size, m, none⟩ = some (.int .u32 (hsN 4 m : Nat)) := by
    intro m hm; rw [hW, World.cell?_alloc_at _ _ _ _ rfl]; exact tabL_get m hm
  have hbW : Below w.heap.size w W := by rw [hW]; exact hb1.alloc hb1.size _
  have hcW : ∀ j, j < l.length → W.cell? ⟨b, off + j, none⟩ = some (.int .u8 ((l.getD j 0).toNat : Int)) := fun j hj => by
    rw [hbW.cell (World.block_lt_of_cell? w _ (hc j hj))]; exact hc j hj
  unfold tabL at hW
  rw [← hW]
  obtain ⟨g, hg⟩ : ∃ g, g = w1.heap.size := ⟨_, rfl⟩
  rw [← hg] at hT ⊢
  clear hW hb1 hg hc
  go_loop [4, 10] (fun r i => ∃ (k n : Nat), k ≤ l.length ∧ i = .int .i64 k ∧ r = .int .u32 n ∧ n = crcR 4294967295 (l.take k)) (fun _ i => l.length - (intOf i).toNat)
  case atStart => exact ⟨0, 4294967295, Nat.zero_le _, rfl, rfl, rfl⟩
  case round =>
    obtain ⟨k, n, hk, rfl, rfl, hn⟩ := hrel
    have hnb : n < 4294967296 := by rw [hn]; exact crcR_lt _ _ (by omega)
    by_cases hlt : k < l.length
    · obtain ⟨c, hcd⟩ : ∃ c : Nat, c = (l.getD k 0).toNat := ⟨_, rfl⟩
      have hcell := hcW k hlt
      rw [← hcd] at hcell
      have hcb : c < 256 := by rw [hcd]; exact UInt8.toNat_lt _
      obtain ⟨x, hx⟩ : ∃ x : Nat, x = n ^^^ c := ⟨_, rfl⟩
      have hxb : x < 4294967296 := by rw [hx]; exact Nat.xor_lt_two_pow (n := 32) hnb (by omega)
      have e1 : bits BinOp.xor IntKind.u32 (n : Int) (c : Int) = (x : Int) := by rw [hx]; exact u32_xor_nat n c hnb (by omega)
      have e2 := and15 x hxb
      have t1 := hT (x % 16) (by omega)
      have hyb : x / 16 ^^^ hsN 4 (x % 16) < 4294967296 := by rw [← hs4]; exact hsN_lt _ _ hxb
      have e3 := u32_xor_nat (x / 16) (hsN 4 (x % 16)) (by omega) (hsN_lt _ _ (by omega))
      have hst := sum_step x
      obtain ⟨s1, hs1'⟩ : ∃ s, s = hsN 4 (x % 16) := ⟨_, rfl⟩
      rw [← hs1'] at t1 e3 hyb hst
      obtain ⟨y, hy⟩ : ∃ y, y = x / 16 ^^^ s1 := ⟨_, rfl⟩
      rw [← hy] at e3 hyb hst
      have e4 := and15 y hyb
      have t2 := hT (y % 16) (by omega)
      have e5 := u32_xor_nat (y / 16) (hsN 4 (y % 16)) (by omega) (hsN_lt _ _ (by omega))
      obtain ⟨s2, hs2⟩ : ∃ s, s = hsN 4 (y % 16) := ⟨_, rfl⟩
      rw [← hs2] at t2 e5 hst
      have hnext : y / 16 ^^^ s2 = crcR 4294967295 (l.take (k + 1)) := by
        rw [crcR_snoc _ _ _ hlt, ← hn, ← hcd, ← hx]; exact hst.symm
      rw [show ((x / 16 : Nat) : Int) = (x : Int) / 16 from by omega] at e3
      rw [show ((y / 16 : Nat) : Int) = (y : Int) / 16 from by omega] at e5
      rw [show ((x % 16 : Nat) : Int) = (x : Int) % 16 from by omega] at e2
      rw [show ((y % 16 : Nat) : Int) = (y : Int) % 16 from by omega] at e4
      rw [hnext] at e5
      clear hnb hxb hyb hn hx hcd hs1' hy hs2 hst hnext hT hcW
      go_wp2
      exact ⟨⟨k + 1, _, by omega, by go_num, rfl, rfl⟩, by simp [intOf]; omega⟩
    · have hkl : k = l.length := by omega
      subst hkl
      rw [List.take_length] at hn
      have HB : Hid (n < 4294967296) := hnb
      have HN : Hid (n = crcR 4294967295 l) := hn
      clear hnb hn hT hcW
      go_wp2
      go_ret
      refine ⟨?_, hbW⟩
      have := u32_xor_nat 4294967295 n (by omega) HB.out
      rw [show IntKind.u32.max = ((4294967295 : Nat) : Int) from rfl, this, HN.out]
      rfl
theorem sum_none (a : Option Addr) (cap : Nat) (w : World) :
    Calls Try.prog 13 #[.slice a 0 cap] w fun e w' => e = .returned (.int .u32 0) ∧ Below w.heap.size w w' := by
  go_enter Try.func13, Try.ntmps13
  go_wp2_with (go_at_call 14; refine (half_lit _).mono ?_; rintro e w1 ⟨rfl, hb1⟩)
  refine wp_loop_rounds 1 ?_
  rw [rounds_succ]
  go_wp2
  go_ret
  exact ⟨rfl, hb1.alloc hb1.size _⟩
/-- THE CONTRACT: of any list of bytes. -/
theorem sum_any (a : Option Addr) (cap : Nat) (l : List UInt8) (w : World) (hlen : l.length ≤ 9223372036854775807) (h : BS w a l) :
    Calls Try.prog 13 #[.slice a l.length cap] w fun e w' => e = .returned (.int .u32 (crc l : Nat)) ∧ Below w.heap.size w w' := by
  rcases h with rfl | ⟨b, off, rfl, hc⟩
  · exact sum_none a cap w
  · exact sum_some b off cap l w hlen hc
end Go.Proofs.Ytdpgjgoahglgmab
