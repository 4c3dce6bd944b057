/- Tails and replaced texts: the mathematics. -/
import Derived.Test.YtddeamecgbdajaaDoorUItem
import Derived.Test.YtddeamecgbdajaaDoorAppRun
import Derived.OwnWalk
namespace Go.Proofs.YtddeamecgbdajaaDoor
open Go.RowKit
/-- What Tail answers, from length 4 - f on. -/
def tf (l : List UInt8) : Nat → Nat
  | 0 => 0
  | f + 1 => if 3 - f ≤ l.length then (if front (l.drop (l.length - (3 - f))) = (3 - f, false) then 3 - f else tf l f) else 0
def tailL (l : List UInt8) : Nat := tf l 3
theorem tl_extract (s : ByteArray) (a b : Nat) : tl (s.extract a b) = ((tl s).drop a).take (b - a) := by
  simp [tl, List.take_drop]
/-- How many bytes are replaced or taken at once. -/
def stepL (l : List UInt8) : Nat := max (front l).1 1
theorem stepL_pos (l : List UInt8) : 1 ≤ stepL l := Nat.le_max_right _ _
theorem stepL_le (l : List UInt8) (h : l ≠ []) : stepL l ≤ l.length := by
  have := (front_le l).1
  have h0 := List.length_pos_iff.2 h
  unfold stepL; omega
/-- What Replace makes of a text, in so many steps. -/
def replF : Nat → List UInt8 → List UInt8
  | 0, _ => []
  | f + 1, l => if l = [] then [] else (if (front l).2 = true then l.take (stepL l) else [239, 191, 189]) ++ replF f (l.drop (stepL l))
theorem replF_any (n : Nat) : ∀ (l : List UInt8) (f g : Nat), l.length ≤ n → l.length ≤ f → l.length ≤ g → replF f l = replF g l := by
  induction n with
  | zero =>
    intro l f g h _ _
    have h0 : l = [] := List.length_eq_zero_iff.1 (by omega)
    subst h0
    cases f <;> cases g <;> simp [replF]
  | succ n ih =>
    intro l f g h hf hg
    by_cases h0 : l = []
    · subst h0
      cases f <;> cases g <;> simp [replF]
    · have h1 := List.length_pos_iff.2 h0
      have h2 := stepL_pos l
      obtain ⟨f, rfl⟩ : ∃ k, f = k + 1 := ⟨f - 1, by omega⟩
      obtain ⟨g, rfl⟩ : ∃ k, g = k + 1 := ⟨g - 1, by omega⟩
      unfold replF
      rw [if_neg h0, if_neg h0, ih (l.drop (stepL l)) f g (by simp; omega) (by simp; omega) (by simp; omega)]
/-- What Replace makes of a text. -/
def replL (l : List UInt8) : List UInt8 := replF l.length l
theorem replL_nil : replL [] = [] := rfl
theorem replL_cons (l : List UInt8) (h : l ≠ []) : replL l = (if (front l).2 = true then l.take (stepL l) else [239, 191, 189]) ++ replL (l.drop (stepL l)) := by
  have h1 := List.length_pos_iff.2 h
  have h2 := stepL_pos l
  unfold replL
  obtain ⟨k, hk⟩ : ∃ k, l.length = k + 1 := ⟨l.length - 1, by omega⟩
  rw [hk, replF, if_neg h, replF_any _ (l.drop (stepL l)) k _ (Nat.le_refl _) (by simp; omega) (Nat.le_refl _)]
theorem tl_first (s : ByteArray) (n : Nat) : tl (s.extract 0 n) = (tl s).take n := by
  rw [tl_extract]; simp
theorem tl_rest (s : ByteArray) (n : Nat) : tl (s.extract n s.size) = (tl s).drop n := by
  rw [tl_extract, List.take_of_length_le (by simp)]
end Go.Proofs.YtddeamecgbdajaaDoor
