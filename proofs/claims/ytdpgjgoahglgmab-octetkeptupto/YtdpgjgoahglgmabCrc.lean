/- The plain mathematics of chapter 1's sum: the register's step, by one bit, by four, by a byte. No program is named here. -/
import Derived.Laws.BitsAllLaws
import Derived.KernelRfl
namespace Go.Proofs.Ytdpgjgoahglgmab

/-- One bit's step of the register. -/
def hs1 (n : Nat) : Nat := if n % 2 = 1 then (n / 2) ^^^ 3988292384 else n / 2
def hsN : Nat → Nat → Nat
  | 0, n => n
  | j + 1, n => hs1 (hsN j n)
theorem hs1_lt (n : Nat) (h : n < 4294967296) : hs1 n < 4294967296 := by
  unfold hs1
  split
  · exact Nat.xor_lt_two_pow (n := 32) (by omega) (by omega)
  · omega
theorem hsN_lt (j n : Nat) (h : n < 4294967296) : hsN j n < 4294967296 := by
  induction j with
  | zero => exact h
  | succ j ih => exact hs1_lt _ ih
theorem hsN_add (i j n : Nat) : hsN (i + j) n = hsN i (hsN j n) := by
  induction i with
  | zero => simp [hsN]
  | succ i ih => rw [Nat.add_right_comm]; simp only [hsN, ih]
theorem hsN_one (n : Nat) : hsN 1 n = hs1 n := rfl

theorem xor_mod2 (a b : Nat) : (a ^^^ b) % 2 = (a % 2 + b % 2) % 2 := by
  have h : ((a ^^^ b).testBit 0) = (a.testBit 0 ^^ b.testBit 0) := Nat.testBit_xor ..
  simp only [Nat.testBit_zero] at h
  by_cases h1 : a % 2 = 1 <;> by_cases h2 : b % 2 = 1
  · rw [decide_eq_true h1, decide_eq_true h2] at h
    have := of_decide_eq_false h; omega
  · rw [decide_eq_true h1, decide_eq_false h2] at h
    have := of_decide_eq_true h; omega
  · rw [decide_eq_false h1, decide_eq_true h2] at h
    have := of_decide_eq_true h; omega
  · rw [decide_eq_false h1, decide_eq_false h2] at h
    have := of_decide_eq_false h; omega
/-- The step is linear. -/
theorem hs1_xor (a b : Nat) : hs1 (a ^^^ b) = hs1 a ^^^ hs1 b := by
  have hm := xor_mod2 a b
  have hd : (a ^^^ b) / 2 = a / 2 ^^^ b / 2 := Nat.xor_div_two
  unfold hs1
  rw [hm, hd]
  by_cases h1 : a % 2 = 1 <;> by_cases h2 : b % 2 = 1
  · rw [if_neg (by omega), if_pos h1, if_pos h2]
    generalize a / 2 = x; generalize b / 2 = y
    have : x ^^^ 3988292384 ^^^ (y ^^^ 3988292384) = x ^^^ y ^^^ (3988292384 ^^^ 3988292384) := by
      rw [Nat.xor_assoc, Nat.xor_assoc, ← Nat.xor_assoc 3988292384 y, Nat.xor_comm 3988292384 y, Nat.xor_assoc]
    rw [this, Nat.xor_self, Nat.xor_zero]
  · rw [if_pos (by omega), if_pos h1, if_neg h2]
    rw [Nat.xor_assoc, Nat.xor_comm (b / 2), ← Nat.xor_assoc]
  · rw [if_pos (by omega), if_neg h1, if_pos h2]
    rw [Nat.xor_assoc]
  · rw [if_neg (by omega), if_neg h1, if_neg h2]
theorem hsN_xor (j a b : Nat) : hsN j (a ^^^ b) = hsN j a ^^^ hsN j b := by
  induction j with
  | zero => rfl
  | succ j ih => simp only [hsN, ih, hs1_xor]
theorem hs1_zero : hs1 0 = 0 := by rfl
theorem hsN_zero (j : Nat) : hsN j 0 = 0 := by
  induction j with
  | zero => rfl
  | succ j ih => simp only [hsN, ih, hs1_zero]
/-- What has only zeros below is shifted. -/
theorem hsN_shift (j x : Nat) : hsN j (x * 2 ^ j) = x := by
  induction j generalizing x with
  | zero => simp [hsN]
  | succ j ih =>
    rw [Nat.add_comm j 1, hsN_add]
    have : x * 2 ^ (1 + j) = (x * 2) * 2 ^ j := by rw [Nat.pow_add, ← Nat.mul_assoc]
    rw [this, ih, hsN_one, hs1, if_neg (by omega)]
    exact Nat.mul_div_cancel _ (by omega)
theorem split_xor (x j : Nat) : x = (x / 2 ^ j * 2 ^ j) ^^^ (x % 2 ^ j) := by
  apply Nat.eq_of_testBit_eq
  intro i
  rw [Nat.testBit_xor, Nat.testBit_mod_two_pow, Nat.testBit_mul_two_pow, Nat.testBit_div_two_pow]
  by_cases h : i < j
  · simp [h, Nat.not_le.2 h]
  · have : i - j + j = i := by omega
    simp [h, Nat.not_lt.1 h, this]
/-- Four steps by the table. -/
theorem hs4 (x : Nat) : hsN 4 x = (x / 16) ^^^ hsN 4 (x % 16) := by
  have h := split_xor x 4
  calc hsN 4 x = hsN 4 ((x / 2 ^ 4 * 2 ^ 4) ^^^ (x % 2 ^ 4)) := by rw [← h]
    _ = _ := by rw [hsN_xor, hsN_shift]

/-- A byte's step, the whole register. -/
def crcR (r : Nat) (l : List UInt8) : Nat := l.foldl (fun r c => hsN 8 (r ^^^ c.toNat)) r
def crc (l : List UInt8) : Nat := 4294967295 ^^^ crcR 4294967295 l
theorem crcR_lt (l : List UInt8) : ∀ r, r < 4294967296 → crcR r l < 4294967296 := by
  induction l with
  | nil => intro r h; exact h
  | cons c l ih =>
    intro r h
    have hc : c.toNat < 256 := c.toNat_lt
    exact ih _ (hsN_lt _ _ (Nat.xor_lt_two_pow (n := 32) h (by omega)))
theorem crc_lt (l : List UInt8) : crc l < 4294967296 :=
  Nat.xor_lt_two_pow (n := 32) (by omega) (crcR_lt l _ (by omega))
theorem crcR_snoc (r : Nat) (l : List UInt8) (k : Nat) (h : k < l.length) : crcR r (l.take (k + 1)) = hsN 8 (crcR r (l.take k) ^^^ (l.getD k 0).toNat) := by
  unfold crcR
  rw [List.take_add_one, List.foldl_append]
  simp [List.getD, List.getElem?_eq_getElem h]

/-- In the walk's spelling. -/
theorem and1 (n : Nat) (h : n < 4294967296) : (bits BinOp.and IntKind.u32 (n : Int) 1 == 1) = decide (n % 2 = 1) := by
  have := u32_and_nat n 1 h (by omega)
  rw [Nat.and_one_is_mod] at this
  rw [show ((1 : Nat) : Int) = 1 from rfl] at this
  rw [this, Bool.eq_iff_iff]; simp; omega
theorem and15 (n : Nat) (h : n < 4294967296) : bits BinOp.and IntKind.u32 (n : Int) 15 = ((n % 16 : Nat) : Int) := by
  have := u32_and_nat n 15 h (by omega)
  rw [nat_mask4] at this
  exact this
theorem xorp (n : Nat) (h : n < 4294967296) : bits BinOp.xor IntKind.u32 (n : Int) 3988292384 = ((n ^^^ 3988292384 : Nat) : Int) := u32_xor_nat n 3988292384 h (by omega)
theorem odd_in (n : Nat) (h : n < 4294967296) (ho : n % 2 = 1) : (bits BinOp.and IntKind.u32 (n : Int) 1 == 1) = true := by rw [and1 n h]; simpa using ho
theorem even_in (n : Nat) (h : n < 4294967296) (ho : ¬ n % 2 = 1) : (bits BinOp.and IntKind.u32 (n : Int) 1 == 1) = false := by rw [and1 n h]; simpa using ho
theorem odd_out (n : Nat) (h : n < 4294967296) (ho : n % 2 = 1) : bits BinOp.xor IntKind.u32 ((n : Int) / 2) 3988292384 = (hs1 n : Nat) := by
  have := xorp (n / 2) (by omega)
  rw [show (((n / 2 : Nat)) : Int) = (n : Int) / 2 from by omega] at this
  rw [this, hs1, if_pos ho]
theorem even_out (n : Nat) (ho : ¬ n % 2 = 1) : ((n : Int) / 2) = (hs1 n : Nat) := by
  rw [hs1, if_neg ho]; omega
theorem int_eq {k : IntKind} {a b : Int} (h : a = b) : Value.int k a = Value.int k b := by rw [h]

/-- The table. -/
def tabA (k : Nat) : Array Value := Array.ofFn (n := 16) fun i => .int .u32 (if i.val < k then (hsN 4 i.val : Nat) else (0 : Nat) : Nat)
def tabZ : Array Value := #[Value.int IntKind.u32 0, Value.int IntKind.u32 0, Value.int IntKind.u32 0, Value.int IntKind.u32 0,
  Value.int IntKind.u32 0, Value.int IntKind.u32 0, Value.int IntKind.u32 0, Value.int IntKind.u32 0,
  Value.int IntKind.u32 0, Value.int IntKind.u32 0, Value.int IntKind.u32 0, Value.int IntKind.u32 0,
  Value.int IntKind.u32 0, Value.int IntKind.u32 0, Value.int IntKind.u32 0, Value.int IntKind.u32 0]
theorem tabA_zero : tabA 0 = tabZ := by rfl
theorem tabA_size (k : Nat) : (tabA k).size = 16 := by simp [tabA]
theorem tabA_set (k : Nat) (_h : k < 16) : (tabA k).setIfInBounds k (.int .u32 (hsN 4 k : Nat)) = tabA (k + 1) := by
  apply Array.ext
  · simp [tabA]
  · intro i h1 h2
    simp only [tabA, Array.size_setIfInBounds, Array.size_ofFn] at h1
    rw [Array.getElem_setIfInBounds (by simpa [tabA] using h1)]
    simp only [tabA, Array.getElem_ofFn]
    by_cases e : k = i
    · subst e; simp
    · have : (i < k + 1) = (i < k) := by simp; omega
      simp [e, this]
theorem tabA_get (k i : Nat) (h : i < 16) (hk : i < k) : (tabA k)[i]? = some (.int .u32 (hsN 4 i : Nat)) := by
  rw [Array.getElem?_eq_getElem (by simpa [tabA] using h)]
  simp [tabA, hk]
def tabL : Array Value := #[Value.int IntKind.u32 0x00000000, Value.int IntKind.u32 0x1db71064, Value.int IntKind.u32 0x3b6e20c8, Value.int IntKind.u32 0x26d930ac, Value.int IntKind.u32 0x76dc4190, Value.int IntKind.u32 0x6b6b51f4, Value.int IntKind.u32 0x4db26158, Value.int IntKind.u32 0x5005713c, Value.int IntKind.u32 0xedb88320, Value.int IntKind.u32 0xf00f9344, Value.int IntKind.u32 0xd6d6a3e8, Value.int IntKind.u32 0xcb61b38c, Value.int IntKind.u32 0x9b64c2b0, Value.int IntKind.u32 0x86d3d2d4, Value.int IntKind.u32 0xa00ae278, Value.int IntKind.u32 0xbdbdf21c]
theorem tabL_eq : tabA 16 = tabL := by kernel_rfl
theorem tabL_get (i : Nat) (h : i < 16) : tabL[i]? = some (.int .u32 (hsN 4 i : Nat)) := by rw [← tabL_eq]; exact tabA_get 16 i h h
end Go.Proofs.Ytdpgjgoahglgmab
