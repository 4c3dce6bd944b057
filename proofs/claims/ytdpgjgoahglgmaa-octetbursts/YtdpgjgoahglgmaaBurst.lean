/- The mathematics of chapter 1's bursts: the register is linear in the bytes' bits, and loses nothing of 32 bits. -/
import Derived.Test.YtdpgjgoahglgmaaCrc
namespace Go.Proofs.Ytdpgjgoahglgmaa
/-- The bytes as one number, the first one lowest. -/
def numB : List UInt8 → Nat
  | [] => 0
  | c :: l => c.toNat ^^^ (numB l * 256)
theorem crcR_num (l : List UInt8) : ∀ r, crcR r l = hsN (8 * l.length) (r ^^^ numB l) := by
  induction l with
  | nil => intro r; simp [crcR, numB, hsN]
  | cons c l ih =>
    intro r
    have h1 : crcR r (c :: l) = crcR (hsN 8 (r ^^^ c.toNat)) l := rfl
    rw [h1, ih, numB, List.length_cons, show 8 * (l.length + 1) = 8 * l.length + 8 from by omega, hsN_add, ← Nat.xor_assoc, show numB l * 256 = numB l * 2 ^ 8 from rfl, hsN_xor 8 (r ^^^ c.toNat) (numB l * 2 ^ 8), hsN_shift]
theorem hs1_ne (x : Nat) (h : x < 4294967296) (h0 : x ≠ 0) : hs1 x ≠ 0 := by
  unfold hs1
  split
  · intro e
    have : x / 2 = 3988292384 := by
      have h1 : (x / 2 ^^^ 3988292384) ^^^ 3988292384 = 0 ^^^ 3988292384 := by rw [e]
      rw [Nat.xor_assoc, Nat.xor_self, Nat.xor_zero, Nat.zero_xor] at h1
      exact h1
    omega
  · omega
theorem hsN_ne (j x : Nat) (h : x < 4294967296) (h0 : x ≠ 0) : hsN j x ≠ 0 := by
  induction j with
  | zero => exact h0
  | succ j ih => exact hs1_ne _ (hsN_lt j x h) ih
theorem xor_cancel_left {a b c : Nat} (h : a ^^^ b = a ^^^ c) : b = c := by
  have : a ^^^ (a ^^^ b) = a ^^^ (a ^^^ c) := by rw [h]
  rwa [← Nat.xor_assoc, ← Nat.xor_assoc, Nat.xor_self, Nat.zero_xor, Nat.zero_xor] at this
/-- Bytes that differ by e, laid from bit 'at' on, within the text: the sums are alike just if e is nought. -/
theorem crc_burst (l c : List UInt8) (p e : Nat) (hl : c.length = l.length) (he : e < 4294967296) (hp : p ≤ 8 * l.length) (h : numB c = numB l ^^^ (e * 2 ^ p)) : crc l = crc c ↔ e = 0 := by
  have hc : crcR 4294967295 c = crcR 4294967295 l ^^^ hsN (8 * l.length - p) e := by
    rw [crcR_num, crcR_num, hl, h, ← Nat.xor_assoc, hsN_xor]
    congr 1
    rw [show 8 * l.length = (8 * l.length - p) + p from by omega, hsN_add, hsN_shift]
    congr 1; omega
  constructor
  · intro h0
    unfold crc at h0
    have h1 := xor_cancel_left h0
    rw [hc] at h1
    have h2 : crcR 4294967295 l ^^^ 0 = crcR 4294967295 l ^^^ hsN (8 * l.length - p) e := by rw [Nat.xor_zero]; exact h1
    have h3 := xor_cancel_left h2
    rcases Nat.eq_zero_or_pos e with h4 | h4
    · exact h4
    · exact absurd h3.symm (hsN_ne _ e he (by omega))
  · intro h0
    subst h0
    unfold crc
    rw [hc, hsN_zero, Nat.xor_zero]
/-- One bit turned. -/
theorem numB_flip (l : List UInt8) : ∀ (j q : Nat), j < l.length → q < 8 → numB (l.set j (UInt8.ofNat ((l.getD j 0).toNat ^^^ 2 ^ q))) = numB l ^^^ 2 ^ (8 * j + q) := by
  induction l with
  | nil => intro j q h; simp at h
  | cons c l ih =>
    intro j q h hq
    cases j with
    | zero =>
      have hb : c.toNat ^^^ 2 ^ q < 256 := Nat.xor_lt_two_pow (n := 8) c.toNat_lt (Nat.pow_lt_pow_right (by omega) hq)
      simp only [List.set_cons_zero, List.getD_cons_zero, numB, Nat.mul_zero, Nat.zero_add]
      rw [UInt8.toNat_ofNat', Nat.mod_eq_of_lt hb, Nat.xor_assoc, Nat.xor_comm (2 ^ q), ← Nat.xor_assoc]
    | succ j =>
      have hi := ih j q (by simpa using h) hq
      simp only [List.set_cons_succ, List.getD_cons_succ, numB]
      rw [hi, Nat.xor_assoc]
      congr 1
      have e : 2 ^ (8 * (j + 1) + q) = 2 ^ (8 * j + q) * 2 ^ 8 := by rw [← Nat.pow_add]; congr 1; omega
      rw [e, show (256 : Nat) = 2 ^ 8 from rfl, ← Nat.shiftLeft_eq, ← Nat.shiftLeft_eq, ← Nat.shiftLeft_eq, Nat.shiftLeft_xor_distrib]
/-- The burst's bits below k, one more. -/
theorem mod_bit (b k : Nat) : b % 2 ^ (k + 1) = b % 2 ^ k + 2 ^ k * (b / 2 ^ k % 2) := by
  rw [Nat.pow_succ, Nat.mod_mul]
theorem add_xor (x k : Nat) (h : x < 2 ^ k) : x + 2 ^ k = x ^^^ 2 ^ k := by
  have := split_xor (x + 2 ^ k) k
  have h1 : (x + 2 ^ k) / 2 ^ k = 1 := by
    rw [Nat.add_div_right _ (Nat.two_pow_pos k), Nat.div_eq_of_lt h]
  have h2 : (x + 2 ^ k) % 2 ^ k = x := by rw [Nat.add_mod_right, Nat.mod_eq_of_lt h]
  rw [h1, h2, Nat.one_mul, Nat.xor_comm] at this
  exact this
theorem burst_step (n b p k : Nat) (h : b / 2 ^ k % 2 = 1) : (n ^^^ (b % 2 ^ k * 2 ^ p)) ^^^ 2 ^ (p + k) = n ^^^ (b % 2 ^ (k + 1) * 2 ^ p) := by
  rw [mod_bit, h, Nat.mul_one, add_xor _ _ (Nat.mod_lt _ (Nat.two_pow_pos k)), Nat.xor_assoc]
  congr 1
  rw [← Nat.shiftLeft_eq (b % 2 ^ k ^^^ 2 ^ k), Nat.shiftLeft_xor_distrib, Nat.shiftLeft_eq, Nat.shiftLeft_eq, ← Nat.pow_add, Nat.add_comm k p]
theorem burst_skip (b k : Nat) (h : ¬ b / 2 ^ k % 2 = 1) : b % 2 ^ (k + 1) = b % 2 ^ k := by
  rw [mod_bit, show b / 2 ^ k % 2 = 0 from by omega, Nat.mul_zero, Nat.add_zero]
theorem burst_some (b k : Nat) (h : b / 2 ^ k % 2 = 1) : b % 2 ^ (k + 1) ≠ 0 := by
  rw [mod_bit, h]
  have := Nat.two_pow_pos k
  omega
end Go.Proofs.Ytdpgjgoahglgmaa
