/- recipe's digits, runes; strings.HasPrefix, TrimPrefix: their contracts. -/
import Derived.Test.YtonbfcpbgkpbaaaQLib
namespace Go.Proofs.Ytonbfcpbgkpbaaa
open Go.RowKit
set_option linter.unusedVariables false
set_option maxRecDepth 100000
def lowS : ByteArray := { data := #[48, 49, 50, 51, 52, 53, 54, 55, 56, 57, 97, 98, 99, 100, 101, 102] }
def capS : ByteArray := { data := #[48, 49, 50, 51, 52, 53, 54, 55, 56, 57, 65, 66, 67, 68, 69, 70] }
theorem low_all : ∀ n : Fin 256, Lib.indexByte lowS.data.toList (UInt8.ofNat n.val) = if lowB (UInt8.ofNat n.val) = true then (digV (UInt8.ofNat n.val) : Int) else -1 := by decide +kernel
theorem cap_all : ∀ n : Fin 256, Lib.indexByte capS.data.toList (UInt8.ofNat n.val) = if capB (UInt8.ofNat n.val) = true then (digV (UInt8.ofNat n.val) : Int) else -1 := by decide +kernel
theorem low_index (c : UInt8) : Lib.indexByte lowS.data.toList c = if lowB c = true then (digV c : Int) else -1 := by
  have := low_all ⟨c.toNat, UInt8.toNat_lt c⟩
  simpa using this
theorem cap_index (c : UInt8) : Lib.indexByte capS.data.toList c = if capB c = true then (digV c : Int) else -1 := by
  have := cap_all ⟨c.toNat, UInt8.toNat_lt c⟩
  simpa using this
theorem digV_all : ∀ n : Fin 256, (lowB (UInt8.ofNat n.val) = true ∨ capB (UInt8.ofNat n.val) = true) → digV (UInt8.ofNat n.val) < 16 := by decide +kernel
theorem digV_lt {c : UInt8} (h : lowB c = true ∨ capB c = true) : digV c < 16 := by
  have := digV_all ⟨c.toNat, UInt8.toNat_lt c⟩
  simp only [UInt8.ofNat_toNat] at this
  exact this h
theorem byte_back (c : UInt8) : ((c.toNat : Int)).toNat.toUInt8 = c := by simp
theorem index_low (c : UInt8) (h : lowB c = true) (w : World) :
    Calls Try.prog 71 #[.string { data := #[48, 49, 50, 51, 52, 53, 54, 55, 56, 57, 97, 98, 99, 100, 101, 102] }, .int .u8 (c.toNat : Int)] w fun e w' => e = .returned (.int .i64 (digV c : Int)) ∧ w' = w := by
  have := indexByte_any lowS (c.toNat : Int) w
  rw [byte_back, low_index, if_pos h] at this
  exact this
theorem index_cap (c : UInt8) (h : capB c = true) (w : World) :
    Calls Try.prog 71 #[.string { data := #[48, 49, 50, 51, 52, 53, 54, 55, 56, 57, 65, 66, 67, 68, 69, 70] }, .int .u8 (c.toNat : Int)] w fun e w' => e = .returned (.int .i64 (digV c : Int)) ∧ w' = w := by
  have := indexByte_any capS (c.toNat : Int) w
  rw [byte_back, cap_index, if_pos h] at this
  exact this
theorem oneI_low (c : UInt8) : oneI (c.toNat : Int) lowS = lowB c := by
  unfold oneI
  rw [byte_back, low_index]
  have : ((c.toNat : Int) == -1) = false := by simp
  rw [this]
  by_cases h : lowB c = true
  · rw [if_pos h, h]; simp
  · rw [if_neg h]; simp at h; rw [h]; rfl
theorem oneI_cap (c : UInt8) : oneI (c.toNat : Int) capS = capB c := by
  unfold oneI
  rw [byte_back, cap_index]
  have : ((c.toNat : Int) == -1) = false := by simp
  rw [this]
  by_cases h : capB c = true
  · rw [if_pos h, h]; simp
  · rw [if_neg h]; simp at h; rw [h]; rfl
def blankS : ByteArray := { data := #[9, 10, 13, 32] }
def signS : ByteArray := { data := #[123, 125, 43, 61] }
theorem blank_all : ∀ n : Fin 256, decide (0 ≤ Lib.indexByte blankS.data.toList (UInt8.ofNat n.val)) = blnkB (UInt8.ofNat n.val) := by decide +kernel
theorem sign_all : ∀ n : Fin 256, decide (0 ≤ Lib.indexByte signS.data.toList (UInt8.ofNat n.val)) = decide ((UInt8.ofNat n.val).toNat = 123 ∨ (UInt8.ofNat n.val).toNat = 125 ∨ (UInt8.ofNat n.val).toNat = 43 ∨ (UInt8.ofNat n.val).toNat = 61) := by decide +kernel
theorem oneI_blank (c : UInt8) : oneI (c.toNat : Int) blankS = blnkB c := by
  unfold oneI
  rw [byte_back]
  have := blank_all ⟨c.toNat, UInt8.toNat_lt c⟩
  simp only [UInt8.ofNat_toNat] at this
  rw [this]
  have : ((c.toNat : Int) == -1) = false := by simp
  rw [this]
  rfl
theorem oneI_sign (c : UInt8) : oneI (c.toNat : Int) signS = decide (c.toNat = 123 ∨ c.toNat = 125 ∨ c.toNat = 43 ∨ c.toNat = 61) := by
  unfold oneI
  rw [byte_back]
  have := sign_all ⟨c.toNat, UInt8.toNat_lt c⟩
  simp only [UInt8.ofNat_toNat] at this
  rw [this]
  have : ((c.toNat : Int) == -1) = false := by simp
  rw [this]
  rfl
theorem or_all : ∀ a b : Fin 16, bits BinOp.or IntKind.i64 (((a.val : Nat) : Int) * 16) ((b.val : Nat) : Int) = ((a.val * 16 + b.val : Nat) : Int) := by decide +kernel
theorem or_four {a b : Nat} (ha : a < 16) (hb : b < 16) : bits BinOp.or IntKind.i64 ((a : Int) * 16) (b : Int) = ((a * 16 + b : Nat) : Int) := or_all ⟨a, ha⟩ ⟨b, hb⟩
set_option maxHeartbeats 1000000 in
theorem byteOf_any (h c : UInt8) (hh : lowB h = true) (hc : lowB c = true) (w : World) :
    Calls Try.prog 78 #[.int .i64 (h.toNat : Int), .int .i64 (c.toNat : Int)] w fun e w' => e = .returned (.int .i64 ((byteV h c).toNat : Int)) ∧ w' = w := by
  have b1 : h.toNat < 256 := UInt8.toNat_lt _
  have b2 : c.toNat < 256 := UInt8.toNat_lt _
  have H1 := fun wx => index_low h hh wx
  have H2 := fun wx => index_low c hc wx
  have d1 := digV_lt (.inl hh)
  have d2 := digV_lt (.inl hc)
  go_enter Try.func78, Try.ntmps78
  go_wp2_with fail
  refine (H1 _).mono ?_
  rintro e w1 ⟨rfl, rfl⟩
  go_wp2_with fail
  refine (H2 _).mono ?_
  rintro e w1 ⟨rfl, rfl⟩
  go_wp2_with fail
  go_ret
  refine ⟨?_, rfl⟩
  have e : (byteV h c).toNat = digV h * 16 + digV c := by
    unfold byteV
    rw [UInt8.toNat_ofNat']
    omega
  rw [e, ← or_four d1 d2]
  rfl
end Go.Proofs.Ytonbfcpbgkpbaaa
