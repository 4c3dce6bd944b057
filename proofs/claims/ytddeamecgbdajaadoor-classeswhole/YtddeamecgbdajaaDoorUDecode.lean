/- What the run-time reads at a place of a text: by utf's own front. -/
import Derived.Test.YtddeamecgbdajaaDoorUItem
namespace Go.Proofs.YtddeamecgbdajaaDoor
open Go.RowKit
theorem tl_ext (s : ByteArray) (a b : Nat) : tl (s.extract a b) = ((tl s).drop a).take (b - a) := by
  simp [tl, List.take_drop]
/-- The rune of a whole sequence. -/
def rn (l : List UInt8) : Nat :=
  if (front l).1 = 1 then bt l 0 else
  if (front l).1 = 2 then bt l 0 % 32 * 64 + bt l 1 % 64 else
  if (front l).1 = 3 then bt l 0 % 16 * 4096 + bt l 1 % 64 * 64 + bt l 2 % 64 else
  bt l 0 % 8 * 262144 + bt l 1 % 64 * 4096 + bt l 2 % 64 * 64 + bt l 3 % 64
theorem get_bt (s : ByteArray) (i k : Nat) : (s.get! (i + k)).toNat = bt ((tl s).drop i) k := by
  rw [bt_drop]
  unfold bt
  congr 1
  show s.data[i + k]! = _
  rw [getElem!_def, List.getD_eq_getElem?_getD]
  simp only [tl, Array.getElem?_toList]
  cases s.data[i + k]? <;> rfl
theorem size_lt (s : ByteArray) (i k : Nat) : (i + k < s.size) ↔ k < ((tl s).drop i).length := by
  rw [List.length_drop, tl_len]; omega
/-- As numbers. -/
def dec4 (n b0 b1 b2 b3 : Nat) : Nat × Nat :=
  if b0 < 128 then (b0, 1) else
  if b0 / 32 = 6 ∧ 1 < n ∧ b1 / 64 = 2 then (if 128 ≤ b0 % 32 * 64 + b1 % 64 then (b0 % 32 * 64 + b1 % 64, 2) else (65533, 1)) else
  if b0 / 16 = 14 ∧ (1 < n ∧ b1 / 64 = 2) ∧ 2 < n ∧ b2 / 64 = 2 then
    (if 2048 ≤ b0 % 16 * 4096 + b1 % 64 * 64 + b2 % 64 ∧ (b0 % 16 * 4096 + b1 % 64 * 64 + b2 % 64 < 55296 ∨ 57344 ≤ b0 % 16 * 4096 + b1 % 64 * 64 + b2 % 64 ∧ b0 % 16 * 4096 + b1 % 64 * 64 + b2 % 64 ≤ 1114111) then (b0 % 16 * 4096 + b1 % 64 * 64 + b2 % 64, 3) else (65533, 1)) else
  if b0 / 8 = 30 ∧ (1 < n ∧ b1 / 64 = 2) ∧ (2 < n ∧ b2 / 64 = 2) ∧ 3 < n ∧ b3 / 64 = 2 then
    (if 65536 ≤ b0 % 8 * 262144 + b1 % 64 * 4096 + b2 % 64 * 64 + b3 % 64 ∧ (b0 % 8 * 262144 + b1 % 64 * 4096 + b2 % 64 * 64 + b3 % 64 < 55296 ∨ 57344 ≤ b0 % 8 * 262144 + b1 % 64 * 4096 + b2 % 64 * 64 + b3 % 64 ∧ b0 % 8 * 262144 + b1 % 64 * 4096 + b2 % 64 * 64 + b3 % 64 ≤ 1114111) then (b0 % 8 * 262144 + b1 % 64 * 4096 + b2 % 64 * 64 + b3 % 64, 4) else (65533, 1)) else
  (65533, 1)
theorem decode_nums (s : ByteArray) (i : Nat) (_h : ((tl s).drop i) ≠ []) : Utf8.decode s i = dec4 ((tl s).drop i).length (bt ((tl s).drop i) 0) (bt ((tl s).drop i) 1) (bt ((tl s).drop i) 2) (bt ((tl s).drop i) 3) := by
  unfold Utf8.decode dec4
  simp only [get_bt, size_lt, Utf8.runeError, Utf8.valid]
  generalize bt ((tl s).drop i) 0 = b0
  generalize bt ((tl s).drop i) 1 = b1
  generalize bt ((tl s).drop i) 2 = b2
  generalize bt ((tl s).drop i) 3 = b3
  generalize ((tl s).drop i).length = n
  have e : ∀ x : Nat, (((0 : Int) ≤ (x : Int)) ∧ (x : Int) < 55296) ↔ x < 55296 := fun x => by omega
  simp only [Bool.and_eq_true, Bool.or_eq_true, decide_eq_true_eq, beq_iff_eq, ge_iff_le, and_assoc]
  repeat' split
  all_goals first | rfl | (exfalso; omega)
theorem dec4_front (l : List UInt8) (h : l ≠ []) : dec4 l.length (bt l 0) (bt l 1) (bt l 2) (bt l 3) = if (front l).2 = true then (rn l, (front l).1) else (65533, 1) := by
  have h0 := List.length_pos_iff.2 h
  have l0 := bt_lt l 0
  have l1 := bt_lt l 1
  have l2 := bt_lt l 2
  have l3 := bt_lt l 3
  have hs := front_spec l
  unfold rn
  generalize bt l 0 = b0 at *
  generalize bt l 1 = b1 at *
  generalize bt l 2 = b2 at *
  generalize bt l 3 = b3 at *
  generalize l.length = n at *
  clear h
  unfold dec4
  rcases hs with ⟨e, g⟩ | ⟨e, g⟩ | ⟨e, g⟩ | ⟨e, g⟩ | ⟨e, g⟩ | ⟨e, g⟩ | ⟨e, g⟩ | ⟨e, g⟩ <;> rw [e] <;> clear e <;> simp only [Bool.false_eq_true, if_false, if_true, Nat.reduceEqDiff]
  all_goals
    repeat' split
    all_goals first | (exfalso; omega) | rfl
/-- WHAT IS READ. -/
theorem decode_front (s : ByteArray) (i : Nat) (h : ((tl s).drop i) ≠ []) : Utf8.decode s i = if (front ((tl s).drop i)).2 = true then (rn ((tl s).drop i), (front ((tl s).drop i)).1) else (65533, 1) := by
  rw [decode_nums s i h, dec4_front _ h]
theorem rn_take (l : List UInt8) (h : (front l).2 = true) : rn (l.take (front l).1) = rn l := by
  have hf := front_whole_take l h
  have hle := front_le l
  have hb : ∀ k, k < (front l).1 → bt (l.take (front l).1) k = bt l k := fun k hk => by
    unfold bt
    rw [List.getD_eq_getElem?_getD, List.getD_eq_getElem?_getD, List.getElem?_take, if_pos hk]
  have h1 := hle.2.2.1 h
  unfold rn
  rw [hf]
  have c : (front l).1 = 1 ∨ (front l).1 = 2 ∨ (front l).1 = 3 ∨ (front l).1 = 4 := by omega
  rcases c with c | c | c | c <;> rw [c] at hb ⊢ <;> simp [hb]
/-- The sequence's item. -/
theorem decode_whole (s : ByteArray) (a n : Nat) (h : (front ((tl s).drop a)).2 = true) (hn : n = (front ((tl s).drop a)).1) : Utf8.decode (s.extract a (a + n)) 0 = (rn ((tl s).drop a), n) := by
  have he : tl (s.extract a (a + n)) = ((tl s).drop a).take n := by rw [tl_ext, show a + n - a = n by omega]
  have h1 := (front_le ((tl s).drop a)).2.2.1 h
  have hl := (front_le ((tl s).drop a)).1
  have hne : (tl (s.extract a (a + n))).drop 0 ≠ [] := by
    rw [he, List.drop_zero]
    intro hh
    have := congrArg List.length hh
    rw [List.length_take, List.length_nil] at this
    omega
  rw [decode_front _ _ hne, he, List.drop_zero, hn, front_whole_take _ h, if_pos h, rn_take _ h]
end Go.Proofs.YtddeamecgbdajaaDoor
