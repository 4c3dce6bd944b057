/- Classes: what New asks, rule by rule; kinds: the mathematics. -/
import Derived.Test.YtonbfcpbgkpbaaaSMath
namespace Go.Proofs.Ytonbfcpbgkpbaaa
/-- The list of the number k. -/
def pickL (A B C : List Sp) : Nat → List Sp
  | 1 => A
  | 2 => B
  | 3 => C
  | _ => []
/-- Too many spans? -/
def manyA (l : List Sp) : Nat × Nat := if 512 < l.length then (512, 4) else (0, 0)
/-- One list ahead more. -/
def ovS (X : List Sp) (f : Int) (Y : List Sp) : Int := if (meetA X Y).2 = true ∧ (f < 0 ∨ ((meetA X Y).1 : Int) < f) then ((meetA X Y).1 : Int) else f
/-- The first row of X that meets one of L; -1: there is none. -/
def ovI (X : List Sp) (L : List (List Sp)) : Int := L.foldl (ovS X) (-1)
def overA (X : List Sp) (L : List (List Sp)) : Nat × Nat := if ovI X L < 0 then (0, 0) else ((ovI X L).toNat, 16)
/-- The lists ahead of the number k. -/
def ahead (A B : List Sp) (k : Nat) : List (List Sp) := [[], A, B].take k
/-- The rule r at the list i: the row, and why. -/
def ruleA (A B C : List Sp) (r i : Nat) : Nat × Nat :=
  match r with
  | 0 => manyA (pickL A B C i)
  | 1 => rightA (pickL A B C i)
  | _ => overA (pickL A B C i) (ahead A B i)
def ent (A B C : List Sp) (q : Nat) : Nat × Nat := ruleA A B C (q / 3) (q % 3 + 1)
/-- The kind of a rune. -/
def kindOf (A B C : List Sp) (r : Int) : Nat := if inB A r then 1 else if inB B r then 2 else if inB C r then 3 else 4
/-- The last rule. -/
def blankB (A B C : List Sp) : Bool := !inB C 32 || inB A 39 || inB B 39 || inB C 39
/-- Why, which list, which row. -/
def checkA (A B C : List Sp) : Nat × Nat × Nat :=
  match (List.range 9).find? (fun q => decide ((ent A B C q).2 ≠ 0)) with
  | some q => ((ent A B C q).2, q % 3 + 1, (ent A B C q).1)
  | none => if blankB A B C then (20, 3, 0) else (0, 0, 0)
/-- All that is asked ahead of place q holds. -/
def Pass (A B C : List Sp) (q : Nat) : Prop := ∀ j, j < q → (ent A B C j).2 = 0
theorem Pass.zero (A B C : List Sp) : Pass A B C 0 := fun _ h => absurd h (Nat.not_lt_zero _)
theorem Pass.succ {A B C : List Sp} {q : Nat} (h : Pass A B C q) (h0 : (ent A B C q).2 = 0) : Pass A B C (q + 1) := fun j hj => by
  by_cases e : j = q
  · subst e; exact h0
  · exact h j (by omega)
theorem Pass.le {A B C : List Sp} {q p : Nat} (h : Pass A B C q) (hp : p ≤ q) : Pass A B C p := fun j hj => h j (by omega)
theorem check_bad {A B C : List Sp} {q : Nat} (hq : q < 9) (h : Pass A B C q) (h0 : (ent A B C q).2 ≠ 0) : checkA A B C = ((ent A B C q).2, q % 3 + 1, (ent A B C q).1) := by
  have : (List.range 9).find? (fun q => decide ((ent A B C q).2 ≠ 0)) = some q := by
    rw [List.find?_range_eq_some]
    exact ⟨by simpa using h0, by simpa using hq, fun j hj => by simpa using h j hj⟩
  unfold checkA
  rw [this]
theorem check_end {A B C : List Sp} (h : Pass A B C 9) : checkA A B C = if blankB A B C then (20, 3, 0) else (0, 0, 0) := by
  have : (List.range 9).find? (fun q => decide ((ent A B C q).2 ≠ 0)) = none := by
    rw [List.find?_range_eq_none]
    exact fun j hj => by simpa using h j hj
  unfold checkA
  rw [this]
theorem check_pass {A B C : List Sp} (h : (checkA A B C).1 = 0) : Pass A B C 9 ∧ blankB A B C = false := by
  cases hf : (List.range 9).find? (fun q => decide ((ent A B C q).2 ≠ 0)) with
  | some q =>
    unfold checkA at h
    rw [hf] at h
    rw [List.find?_range_eq_some] at hf
    have := hf.1
    simp at this
    exact absurd h this
  | none =>
    unfold checkA at h
    rw [hf] at h
    rw [List.find?_range_eq_none] at hf
    refine ⟨fun j hj => by simpa using hf j hj, ?_⟩
    cases hb : blankB A B C with
    | false => rfl
    | true => rw [hb] at h; simp at h
theorem check_zero {A B C : List Sp} (h : (checkA A B C).1 = 0) : checkA A B C = (0, 0, 0) := by
  obtain ⟨h1, h2⟩ := check_pass h
  rw [check_end h1, h2]
  rfl
theorem ent_many (A B C : List Sp) {q : Nat} (hq : q < 3) : ent A B C q = manyA (pickL A B C (q + 1)) := by
  unfold ent
  rw [show q / 3 = 0 by omega, show q % 3 = q by omega]; rfl
theorem ent_right (A B C : List Sp) {q : Nat} (hq : q < 3) : ent A B C (3 + q) = rightA (pickL A B C (q + 1)) := by
  unfold ent
  rw [show (3 + q) / 3 = 1 by omega, show (3 + q) % 3 = q by omega]; rfl
theorem ent_over (A B C : List Sp) {q : Nat} (hq : q < 3) : ent A B C (6 + q) = overA (pickL A B C (q + 1)) (ahead A B (q + 1)) := by
  unfold ent
  rw [show (6 + q) / 3 = 2 by omega, show (6 + q) % 3 = q by omega]; rfl
theorem ent_rule (A B C : List Sp) {r i : Nat} (hi : 1 ≤ i) (hi3 : i ≤ 3) : ent A B C (3 * r + (i - 1)) = ruleA A B C r i := by
  unfold ent
  rw [show (3 * r + (i - 1)) / 3 = r by omega, show (3 * r + (i - 1)) % 3 + 1 = i by omega]
theorem manyA_zero {l : List Sp} (h : (manyA l).2 = 0) : l.length ≤ 512 := by
  unfold manyA at h
  split at h
  · simp at h
  · omega
theorem Pass.len {A B C : List Sp} {q : Nat} (h : Pass A B C q) (hq : 3 ≤ q) : A.length ≤ 512 ∧ B.length ≤ 512 ∧ C.length ≤ 512 := by
  have h0 := h 0 (by omega)
  have h1 := h 1 (by omega)
  have h2 := h 2 (by omega)
  rw [ent_many _ _ _ (by omega)] at h0 h1 h2
  exact ⟨manyA_zero h0, manyA_zero h1, manyA_zero h2⟩
theorem Pass.rgt {A B C : List Sp} {q : Nat} (h : Pass A B C q) (hq : 6 ≤ q) : Rgt A ∧ Rgt B ∧ Rgt C := by
  have h0 := h (3 + 0) (by omega)
  have h1 := h (3 + 1) (by omega)
  have h2 := h (3 + 2) (by omega)
  rw [ent_right _ _ _ (by omega)] at h0 h1 h2
  exact ⟨rightA_zero h0, rightA_zero h1, rightA_zero h2⟩
theorem ovS_neg {X Y : List Sp} {f : Int} : ovS X f Y < 0 ↔ f < 0 ∧ (meetA X Y).2 = false := by
  unfold ovS
  cases hm : (meetA X Y).2 with
  | false => simp
  | true =>
    split
    · constructor
      · intro h; omega
      · rintro ⟨_, h⟩; cases h
    · rename_i h
      constructor
      · intro h'; exact absurd ⟨rfl, .inl h'⟩ h
      · rintro ⟨_, h'⟩; cases h'
theorem ovF_neg {X : List Sp} (L : List (List Sp)) (f : Int) : L.foldl (ovS X) f < 0 ↔ f < 0 ∧ ∀ Y, Y ∈ L → (meetA X Y).2 = false := by
  induction L generalizing f with
  | nil => simp
  | cons Z L ih =>
    rw [List.foldl_cons, ih, ovS_neg]
    simp [and_assoc]
theorem ovI_neg {X : List Sp} {L : List (List Sp)} : ovI X L < 0 ↔ ∀ Y, Y ∈ L → (meetA X Y).2 = false := by
  unfold ovI
  rw [ovF_neg]
  simp
theorem ovI_take {X : List Sp} {L : List (List Sp)} {j : Nat} {Y : List Sp} (h : L[j]? = some Y) : ovI X (L.take (j + 1)) = ovS X (ovI X (L.take j)) Y := by
  unfold ovI
  rw [List.take_add_one, h, List.foldl_append]
  rfl
theorem meetA_nil (X : List Sp) : meetA X [] = (0, false) := meetA_none fun _ _ _ => by simp [meets]
theorem ovS_nil (X : List Sp) (f : Int) : ovS X f [] = f := by
  unfold ovS
  rw [meetA_nil]
  simp
theorem ovI_nil (X : List Sp) (L : List (List Sp)) : ovI X ([] :: L) = ovI X L := by
  unfold ovI
  rw [List.foldl_cons, ovS_nil]
theorem Pass.apart {A B C : List Sp} (h : Pass A B C 9) : (meetA B A).2 = false ∧ (meetA C A).2 = false ∧ (meetA C B).2 = false := by
  have h1 := h (6 + 1) (by omega)
  have h2 := h (6 + 2) (by omega)
  rw [ent_over _ _ _ (by omega)] at h1 h2
  have ho : ∀ X L, (overA X L).2 = 0 → ∀ Y, Y ∈ L → (meetA X Y).2 = false := by
    intro X L h
    unfold overA at h
    split at h
    · rename_i hn
      exact ovI_neg.1 hn
    · simp at h
  exact ⟨ho _ _ h1 A (by simp [ahead]), ho _ _ h2 A (by simp [ahead]), ho _ _ h2 B (by simp [ahead])⟩
theorem not_in {a b : List Sp} {r : Int} (h : (meetA a b).2 = false) (ha : inB a r = true) : inB b r = false := by
  cases hb : inB b r with
  | false => rfl
  | true => rw [meet_of_in ha hb] at h; cases h
theorem blank_of {A B C : List Sp} (h : Pass A B C 9) : (decide (kindOf A B C 32 ≠ 3) || decide (kindOf A B C 39 ≠ 4)) = blankB A B C := by
  obtain ⟨h1, h2, h3⟩ := h.apart
  unfold kindOf blankB
  cases hc : inB C 32 with
  | true =>
    rw [not_in h2 hc, not_in h3 hc]
    cases inB A 39 <;> cases inB B 39 <;> cases inB C 39 <;> simp
  | false =>
    cases inB A 32 <;> cases inB B 32 <;> simp
theorem kindOf_range (A B C : List Sp) (r : Int) : 1 ≤ kindOf A B C r ∧ kindOf A B C r ≤ 4 := by
  unfold kindOf
  split
  · omega
  · split
    · omega
    · split <;> omega
theorem check_row {A B C : List Sp} : (checkA A B C).1 ≤ 20 ∧ (checkA A B C).2.1 ≤ 3 := by
  unfold checkA
  split
  · rename_i q hf
    rw [List.find?_range_eq_some] at hf
    refine ⟨?_, by simp only; omega⟩
    simp only
    unfold ent ruleA
    split
    · unfold manyA; split <;> simp
    · have := (rightA_le (pickL A B C (q % 3 + 1))).2; omega
    · unfold overA; split <;> simp
  · split <;> simp
end Go.Proofs.Ytonbfcpbgkpbaaa
