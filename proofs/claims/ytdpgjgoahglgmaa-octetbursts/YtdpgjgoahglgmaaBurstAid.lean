/- OctetBursts: lemmas for its walk. -/
import Derived.Test.YtdpgjgoahglgmaaApp
import Derived.Test.YtdpgjgoahglgmaaBurst
namespace Go.Proofs.Ytdpgjgoahglgmaa
open Go.RowKit
theorem bit_test (b k : Nat) (hb : b < 4294967296) : (bits BinOp.and IntKind.u32 ((b : Int) / 2 ^ k) 1 == 1) = decide (b / 2 ^ k % 2 = 1) := by
  have h0 : b / 2 ^ k ≤ b := Nat.div_le_self _ _
  have e3 : (b : Int) / 2 ^ k = ((b / 2 ^ k : Nat) : Int) := by
    rw [Int.natCast_ediv]; congr 1
  rw [e3, and1 _ (by omega)]
theorem bit_yes (b k : Nat) (hb : b < 4294967296) (h : b / 2 ^ k % 2 = 1) : (bits BinOp.and IntKind.u32 ((b : Int) / 2 ^ k) 1 == 1) = true := by rw [bit_test b k hb]; simpa using h
theorem bit_no (b k : Nat) (hb : b < 4294967296) (h : ¬ b / 2 ^ k % 2 = 1) : (bits BinOp.and IntKind.u32 ((b : Int) / 2 ^ k) 1 == 1) = false := by rw [bit_test b k hb]; simpa using h
theorem own_flip {wr : World} {base g n c2 : Nat} {C : List UInt8} (j q : Nat) (hown : OwnS wr base (.slice (some ⟨g, 0, none⟩) n c2) C) (hCl : C.length = n) (_hj : j < n) (hq : q < 8) (x : Nat) (hx : x = (C.getD j 0).toNat) :
    OwnS (wr.setCell ⟨g, j, none⟩ (.int .u8 (bits BinOp.xor IntKind.u8 (x : Int) (2 ^ q % 256)))) base (.slice (some ⟨g, 0, none⟩) n c2) (C.set j (UInt8.ofNat ((C.getD j 0).toNat ^^^ 2 ^ q))) := by
  have hO : wr.ownsRow base 5 1 (.slice (some ⟨g, 0, none⟩) n c2) n (cellsOf C) := by unfold OwnS at hown; rw [hCl] at hown; exact hown
  have h1 := (World.ownsRow.stored hO j (.int .u8 (bits BinOp.xor IntKind.u8 (x : Int) (2 ^ q % 256)))).1
  have hx8 : x < 256 := by rw [hx]; exact UInt8.toNat_lt _
  have hq8 : 2 ^ q < 2 ^ 8 := Nat.pow_lt_pow_right (by omega) hq
  have e1 : ((2 : Int) ^ q % 256) = ((2 ^ q : Nat) : Int) := by
    have : ((2 : Int) ^ q) = ((2 ^ q : Nat) : Int) := by rw [Int.natCast_pow]; rfl
    rw [this]; exact Int.emod_eq_of_lt (Int.natCast_nonneg _) (Int.ofNat_lt.2 hq8)
  have hy : x ^^^ 2 ^ q < 256 := Nat.xor_lt_two_pow (n := 8) hx8 hq8
  rw [e1, u8_xor_nat x (2 ^ q) hx8 hq8] at h1 ⊢
  have e2 : ((x ^^^ 2 ^ q : Nat) : Int) = ((UInt8.ofNat ((C.getD j 0).toNat ^^^ 2 ^ q)).toNat : Int) := by
    rw [UInt8.toNat_ofNat', ← hx, Nat.mod_eq_of_lt hy]
  rw [e2] at h1 ⊢
  rw [cellsOf_set] at h1
  unfold OwnS
  rw [List.length_set, hCl]
  exact h1
end Go.Proofs.Ytdpgjgoahglgmaa
