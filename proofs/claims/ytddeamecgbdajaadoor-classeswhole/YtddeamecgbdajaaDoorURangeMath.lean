/- A whole sequence is its rune's: the mathematics. -/
import Derived.Test.YtddeamecgbdajaaDoorUItems
namespace Go.Proofs.YtddeamecgbdajaaDoor
open Go.RowKit
theorem bt_u8 (l : List UInt8) (i : Nat) (h : i < l.length) : UInt8.ofNat (bt l i) = l[i] := by
  have := bt_get l i h
  rw [List.getElem?_eq_getElem h] at this
  exact (Option.some.inj this).symm
theorem take_1 (l : List UInt8) (h : 1 ≤ l.length) : l.take 1 = [UInt8.ofNat (bt l 0)] := by
  rw [bt_u8 l 0 (by omega)]
  match l, h with
  | a :: r, _ => rfl
theorem take_2 (l : List UInt8) (h : 2 ≤ l.length) : l.take 2 = [UInt8.ofNat (bt l 0), UInt8.ofNat (bt l 1)] := by
  rw [bt_u8 l 0 (by omega), bt_u8 l 1 (by omega)]
  match l, h with
  | a :: b :: r, _ => rfl
theorem take_3 (l : List UInt8) (h : 3 ≤ l.length) : l.take 3 = [UInt8.ofNat (bt l 0), UInt8.ofNat (bt l 1), UInt8.ofNat (bt l 2)] := by
  rw [bt_u8 l 0 (by omega), bt_u8 l 1 (by omega), bt_u8 l 2 (by omega)]
  match l, h with
  | a :: b :: c :: r, _ => rfl
theorem take_4 (l : List UInt8) (h : 4 ≤ l.length) : l.take 4 = [UInt8.ofNat (bt l 0), UInt8.ofNat (bt l 1), UInt8.ofNat (bt l 2), UInt8.ofNat (bt l 3)] := by
  rw [bt_u8 l 0 (by omega), bt_u8 l 1 (by omega), bt_u8 l 2 (by omega), bt_u8 l 3 (by omega)]
  match l, h with
  | a :: b :: c :: d :: r, _ => rfl
/-- The rune's bytes as numbers. -/
def encN (c : Nat) : List Nat :=
  if c < 128 then [c] else if c < 2048 then [192 + c / 64, 128 + c % 64] else if c < 65536 then [224 + c / 4096, 128 + c / 64 % 64, 128 + c % 64] else [240 + c / 262144, 128 + c / 4096 % 64, 128 + c / 64 % 64, 128 + c % 64]
theorem encode_nums (c : Nat) (h : c < 55296 ∨ (57344 ≤ c ∧ c ≤ 1114111)) : tl (Utf8.encode (c : Int)) = (encN c).map UInt8.ofNat := by
  have hv : Utf8.valid (c : Int) = true := by
    unfold Utf8.valid
    simp
    omega
  unfold Utf8.encode encN
  simp only [hv, if_true, Int.toNat_natCast]
  repeat' split
  all_goals rfl
theorem encode_rn (l : List UInt8) (h : (front l).2 = true) : tl (Utf8.encode (rn l : Nat)) = l.take (front l).1 := by
  have hs := front_spec l
  have hl := (front_le l).1
  have l0 := bt_lt l 0
  have l1 := bt_lt l 1
  have l2 := bt_lt l 2
  have l3 := bt_lt l 3
  have t1 := take_1 l
  have t2 := take_2 l
  have t3 := take_3 l
  have t4 := take_4 l
  have hrn : rn l = rn l := rfl
  conv at hrn => rhs; unfold rn
  rw [hrn]
  clear hrn
  generalize bt l 0 = b0 at *
  generalize bt l 1 = b1 at *
  generalize bt l 2 = b2 at *
  generalize bt l 3 = b3 at *
  rcases hs with ⟨e, g⟩ | ⟨e, g⟩ | ⟨e, g⟩ | ⟨e, g⟩ | ⟨e, g⟩ | ⟨e, g⟩ | ⟨e, g⟩ | ⟨e, g⟩ <;> rw [e] at h hl ⊢ <;> simp only [Bool.false_eq_true, Nat.reduceEqDiff, if_true, if_false] at h hl ⊢
  · rw [t1 hl, encode_nums _ (by omega)]
    unfold encN
    rw [if_pos (by omega)]
    rfl
  · rw [t2 hl, encode_nums _ (by omega)]
    unfold encN
    rw [if_neg (by omega), if_pos (by omega), show 192 + (b0 % 32 * 64 + b1 % 64) / 64 = b0 by omega, show 128 + (b0 % 32 * 64 + b1 % 64) % 64 = b1 by omega]
    rfl
  · rw [t3 hl, encode_nums _ (by omega)]
    unfold encN
    rw [if_neg (by omega), if_neg (by omega), if_pos (by omega), show 224 + (b0 % 16 * 4096 + b1 % 64 * 64 + b2 % 64) / 4096 = b0 by omega, show 128 + (b0 % 16 * 4096 + b1 % 64 * 64 + b2 % 64) / 64 % 64 = b1 by omega, show 128 + (b0 % 16 * 4096 + b1 % 64 * 64 + b2 % 64) % 64 = b2 by omega]
    rfl
  · rw [t4 hl, encode_nums _ (by omega)]
    unfold encN
    rw [if_neg (by omega), if_neg (by omega), if_neg (by omega), show 240 + (b0 % 8 * 262144 + b1 % 64 * 4096 + b2 % 64 * 64 + b3 % 64) / 262144 = b0 by omega, show 128 + (b0 % 8 * 262144 + b1 % 64 * 4096 + b2 % 64 * 64 + b3 % 64) / 4096 % 64 = b1 by omega, show 128 + (b0 % 8 * 262144 + b1 % 64 * 4096 + b2 % 64 * 64 + b3 % 64) / 64 % 64 = b2 by omega, show 128 + (b0 % 8 * 262144 + b1 % 64 * 4096 + b2 % 64 * 64 + b3 % 64) % 64 = b3 by omega]
    rfl
end Go.Proofs.YtddeamecgbdajaaDoor
