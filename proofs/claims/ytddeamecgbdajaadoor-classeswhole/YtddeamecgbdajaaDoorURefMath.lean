/- The mathematics of the document's own answer: what goes on as one sequence, by utf's front. -/
import Derived.Test.YtddeamecgbdajaaDoorUDecode
namespace Go.Proofs.YtddeamecgbdajaaDoor
open Go.RowKit
def needN (b : Nat) : Nat := if 194 ≤ b ∧ b ≤ 223 then 2 else if 224 ≤ b ∧ b ≤ 239 then 3 else if 240 ≤ b ∧ b ≤ 244 then 4 else 0
def secondB (c d : Nat) : Bool := decide ((if c = 240 then 144 else if c = 224 then 160 else 128) ≤ d) && decide (d ≤ (if c = 244 then 143 else if c = 237 then 159 else 191))
/-- Does byte n go on? -/
def goesOn (l : List UInt8) (n : Nat) : Bool := if n = 1 then secondB (bt l 0) (bt l 1) else decide (128 ≤ bt l n) && decide (bt l n ≤ 191)
def fitF (l : List UInt8) (most : Nat) : Nat → Nat → Nat
  | 0, n => n
  | f + 1, n => if n < most ∧ n < l.length ∧ goesOn l n = true then fitF l most f (n + 1) else n
def fitsN (l : List UInt8) (most : Nat) : Nat := fitF l most 3 1
def widthL (l : List UInt8) : Nat := if bt l 0 < 128 then 1 else if needN (bt l 0) = 0 ∨ fitsN l (needN (bt l 0)) < needN (bt l 0) then 0 else needN (bt l 0)
def beginsL (l : List UInt8) : Nat := if needN (bt l 0) = 0 then 0 else fitsN l (needN (bt l 0) - 1)
theorem secondB_iff (c d : Nat) : secondB c d = true ↔ (if c = 240 then 144 else if c = 224 then 160 else 128) ≤ d ∧ d ≤ (if c = 244 then 143 else if c = 237 then 159 else 191) := by simp [secondB]
theorem goesOn_1 (l : List UInt8) : goesOn l 1 = true ↔ 128 ≤ bt l 1 ∧ bt l 1 ≤ 191 ∧ (bt l 0 ≠ 240 ∨ 144 ≤ bt l 1) ∧ (bt l 0 ≠ 224 ∨ 160 ≤ bt l 1) ∧ (bt l 0 ≠ 244 ∨ bt l 1 ≤ 143) ∧ (bt l 0 ≠ 237 ∨ bt l 1 ≤ 159) := by
  unfold goesOn; rw [if_pos rfl, secondB_iff]
  repeat' split
  all_goals omega
theorem goesOn_n (l : List UInt8) (n : Nat) (h : n ≠ 1) : goesOn l n = true ↔ 128 ≤ bt l n ∧ bt l n ≤ 191 := by
  unfold goesOn; rw [if_neg h]; simp
/-- How many go on, by cases. -/
theorem fitsN_cases (l : List UInt8) (most : Nat) (hm : 1 ≤ most) (hm4 : most ≤ 4) (h0 : 0 < l.length) :
    (fitsN l most = 1 ∧ (most = 1 ∨ l.length = 1 ∨ ¬ goesOn l 1 = true)) ∨
    (fitsN l most = 2 ∧ 1 < most ∧ 1 < l.length ∧ goesOn l 1 = true ∧ (most = 2 ∨ l.length = 2 ∨ ¬ goesOn l 2 = true)) ∨
    (fitsN l most = 3 ∧ 2 < most ∧ 2 < l.length ∧ goesOn l 1 = true ∧ goesOn l 2 = true ∧ (most = 3 ∨ l.length = 3 ∨ ¬ goesOn l 3 = true)) ∨
    (fitsN l most = 4 ∧ 3 < most ∧ 3 < l.length ∧ goesOn l 1 = true ∧ goesOn l 2 = true ∧ goesOn l 3 = true) := by
  unfold fitsN fitF fitF fitF fitF
  generalize goesOn l 1 = g1
  generalize goesOn l 2 = g2
  generalize goesOn l 3 = g3
  generalize l.length = n at *
  by_cases a1 : 1 < most ∧ 1 < n ∧ g1 = true
  · rw [if_pos a1]
    by_cases a2 : 1 + 1 < most ∧ 1 + 1 < n ∧ g2 = true
    · rw [if_pos a2]
      by_cases a3 : 1 + 1 + 1 < most ∧ 1 + 1 + 1 < n ∧ g3 = true
      · rw [if_pos a3]
        exact .inr (.inr (.inr ⟨rfl, a3.1, a3.2.1, a1.2.2, a2.2.2, a3.2.2⟩))
      · rw [if_neg a3]
        refine .inr (.inr (.inl ⟨rfl, a2.1, a2.2.1, a1.2.2, a2.2.2, ?_⟩))
        by_cases x : g3 = true
        · simp [x] at a3; omega
        · exact .inr (.inr x)
    · rw [if_neg a2]
      refine .inr (.inl ⟨rfl, a1.1, a1.2.1, a1.2.2, ?_⟩)
      by_cases x : g2 = true
      · simp [x] at a2; omega
      · exact .inr (.inr x)
  · rw [if_neg a1]
    refine .inl ⟨rfl, ?_⟩
    by_cases x : g1 = true
    · simp [x] at a1; omega
    · exact .inr (.inr x)
theorem width_front (l : List UInt8) (h : l ≠ []) : widthL l = if (front l).2 = true then (front l).1 else 0 := by
  have h0 := List.length_pos_iff.2 h
  have hs := front_spec l
  have l0 := bt_lt l 0
  have g1 := goesOn_1 l
  have g2 := goesOn_n l 2 (by omega)
  have g3 := goesOn_n l 3 (by omega)
  unfold widthL needN
  by_cases c1 : bt l 0 < 128
  · rw [if_pos c1]
    rcases hs with ⟨e, g⟩ | ⟨e, g⟩ | ⟨e, g⟩ | ⟨e, g⟩ | ⟨e, g⟩ | ⟨e, g⟩ | ⟨e, g⟩ | ⟨e, g⟩ <;> rw [e] <;> simp <;> omega
  rw [if_neg c1]
  by_cases c2 : 194 ≤ bt l 0 ∧ bt l 0 ≤ 223
  · rw [if_pos c2]
    have hf := fitsN_cases l 2 (by omega) (by omega) h0
    rw [g1, g2, g3] at hf
    generalize fitsN l 2 = k at *
    rcases hs with ⟨e, g⟩ | ⟨e, g⟩ | ⟨e, g⟩ | ⟨e, g⟩ | ⟨e, g⟩ | ⟨e, g⟩ | ⟨e, g⟩ | ⟨e, g⟩ <;> rw [e] <;> simp <;> clear e <;> omega
  rw [if_neg c2]
  by_cases c3 : 224 ≤ bt l 0 ∧ bt l 0 ≤ 239
  · rw [if_pos c3]
    have hf := fitsN_cases l 3 (by omega) (by omega) h0
    rw [g1, g2, g3] at hf
    generalize fitsN l 3 = k at *
    rcases hs with ⟨e, g⟩ | ⟨e, g⟩ | ⟨e, g⟩ | ⟨e, g⟩ | ⟨e, g⟩ | ⟨e, g⟩ | ⟨e, g⟩ | ⟨e, g⟩ <;> rw [e] <;> simp <;> clear e <;> omega
  rw [if_neg c3]
  by_cases c4 : 240 ≤ bt l 0 ∧ bt l 0 ≤ 244
  · rw [if_pos c4]
    have hf := fitsN_cases l 4 (by omega) (by omega) h0
    rw [g1, g2, g3] at hf
    generalize fitsN l 4 = k at *
    rcases hs with ⟨e, g⟩ | ⟨e, g⟩ | ⟨e, g⟩ | ⟨e, g⟩ | ⟨e, g⟩ | ⟨e, g⟩ | ⟨e, g⟩ | ⟨e, g⟩ <;> rw [e] <;> simp <;> clear e <;> omega
  rw [if_neg c4]
  rcases hs with ⟨e, g⟩ | ⟨e, g⟩ | ⟨e, g⟩ | ⟨e, g⟩ | ⟨e, g⟩ | ⟨e, g⟩ | ⟨e, g⟩ | ⟨e, g⟩ <;> rw [e] <;> simp <;> clear e <;> omega
theorem begins_front (l : List UInt8) (h : l ≠ []) (hw : (front l).2 = false) : beginsL l = (front l).1 := by
  have h0 := List.length_pos_iff.2 h
  have hs := front_spec l
  have l0 := bt_lt l 0
  have g1 := goesOn_1 l
  have g2 := goesOn_n l 2 (by omega)
  have g3 := goesOn_n l 3 (by omega)
  unfold beginsL needN
  by_cases c2 : 194 ≤ bt l 0 ∧ bt l 0 ≤ 223
  · rw [if_pos c2]
    have hf := fitsN_cases l (2 - 1) (by omega) (by omega) h0
    rw [g1, g2, g3] at hf
    generalize fitsN l (2 - 1) = k at *
    rcases hs with ⟨e, g⟩ | ⟨e, g⟩ | ⟨e, g⟩ | ⟨e, g⟩ | ⟨e, g⟩ | ⟨e, g⟩ | ⟨e, g⟩ | ⟨e, g⟩ <;> rw [e] at hw ⊢ <;> simp at hw ⊢ <;> clear e <;> omega
  rw [if_neg c2]
  by_cases c3 : 224 ≤ bt l 0 ∧ bt l 0 ≤ 239
  · rw [if_pos c3]
    have hf := fitsN_cases l (3 - 1) (by omega) (by omega) h0
    rw [g1, g2, g3] at hf
    generalize fitsN l (3 - 1) = k at *
    rcases hs with ⟨e, g⟩ | ⟨e, g⟩ | ⟨e, g⟩ | ⟨e, g⟩ | ⟨e, g⟩ | ⟨e, g⟩ | ⟨e, g⟩ | ⟨e, g⟩ <;> rw [e] at hw ⊢ <;> simp at hw ⊢ <;> clear e <;> omega
  rw [if_neg c3]
  by_cases c4 : 240 ≤ bt l 0 ∧ bt l 0 ≤ 244
  · rw [if_pos c4]
    have hf := fitsN_cases l (4 - 1) (by omega) (by omega) h0
    rw [g1, g2, g3] at hf
    generalize fitsN l (4 - 1) = k at *
    rcases hs with ⟨e, g⟩ | ⟨e, g⟩ | ⟨e, g⟩ | ⟨e, g⟩ | ⟨e, g⟩ | ⟨e, g⟩ | ⟨e, g⟩ | ⟨e, g⟩ <;> rw [e] at hw ⊢ <;> simp at hw ⊢ <;> clear e <;> omega
  rw [if_neg c4]
  rcases hs with ⟨e, g⟩ | ⟨e, g⟩ | ⟨e, g⟩ | ⟨e, g⟩ | ⟨e, g⟩ | ⟨e, g⟩ | ⟨e, g⟩ | ⟨e, g⟩ <;> rw [e] at hw ⊢ <;> simp at hw ⊢ <;> clear e <;> omega
end Go.Proofs.YtddeamecgbdajaaDoor
