import Derived.Test.YtplmmamebfpcjaaGreatDoorProg
import Derived.WalkKit
import Derived.ProofKit
import Derived.Below
import Derived.OpenShut
import Derived.Test.YtplmmamebfpcjaaGreatDoorRows
import Derived.WalkSpells
import Derived.WalkLawsBesides
import Derived.Deep.QuietTactic
import Derived.BigQuiet
import Derived.Lib.SmallJoins
import Derived.Lib.AppendStr
section
/- Spans: what they are, and what is asked of them: the mathematics. -/
namespace Go.Proofs.YtplmmamebfpcjaaGreatDoor
/-- A span. -/
structure Sp where
  lo : Int
  hi : Int
/-- Is it a scalar value? -/
def runeB (r : Int) : Bool := decide (0 ≤ r) && decide (r ≤ 1114111) && (decide (r < 55296) || decide (57343 < r))
theorem runeB_iff (r : Int) : runeB r = true ↔ 0 ≤ r ∧ r ≤ 1114111 ∧ (r < 55296 ∨ 57343 < r) := by
  simp [runeB, and_assoc]
/-- What two spans have in common. -/
def comL (x y : Sp) : Sp := if min x.hi y.hi < max x.lo y.lo then ⟨0, -1⟩ else ⟨max x.lo y.lo, min x.hi y.hi⟩
/-- The two spans of all runes. -/
def lowR : Sp := ⟨0, 55295⟩
def highR : Sp := ⟨57344, 1114111⟩
/-- Do two spans lie over each other? -/
def ovB (x y : Sp) : Bool := decide (max x.lo y.lo ≤ min x.hi y.hi)
/-- Why row i may not stand there: 0: it may. -/
def badAt (l : List Sp) (i : Nat) : Nat :=
  match l[i]? with
  | none => 0
  | some x => if runeB x.lo = false ∨ runeB x.hi = false then 14 else if x.hi < x.lo then 15 else
    match i with
    | 0 => 0
    | j + 1 => match l[j]? with
      | none => 0
      | some y => if x.lo ≤ y.hi then 15 else 0
def rightA (l : List Sp) : Nat × Nat :=
  match (List.range l.length).find? (fun i => decide (badAt l i ≠ 0)) with
  | some i => (i, badAt l i)
  | none => (0, 0)
def Rgt (l : List Sp) : Prop := ∀ j, j < l.length → badAt l j = 0
theorem rightA_some {l : List Sp} {k : Nat} (hk : k < l.length) (hb : ∀ j, j < k → badAt l j = 0) (h : badAt l k ≠ 0) : rightA l = (k, badAt l k) := by
  have : (List.range l.length).find? (fun i => decide (badAt l i ≠ 0)) = some k := by
    rw [List.find?_range_eq_some]
    refine ⟨by simpa using h, by simpa using hk, fun j hj => by simpa using hb j hj⟩
  unfold rightA
  rw [this]
theorem rightA_none {l : List Sp} (h : Rgt l) : rightA l = (0, 0) := by
  have : (List.range l.length).find? (fun i => decide (badAt l i ≠ 0)) = none := by
    rw [List.find?_range_eq_none]
    exact fun j hj => by simpa using h j hj
  unfold rightA
  rw [this]
theorem rightA_zero {l : List Sp} (h : (rightA l).2 = 0) : Rgt l := by
  intro j hj
  unfold rightA at h
  cases hf : (List.range l.length).find? (fun i => decide (badAt l i ≠ 0)) with
  | some i =>
    rw [hf] at h
    rw [List.find?_range_eq_some] at hf
    have := hf.1
    simp at this
    exact absurd h this
  | none =>
    rw [List.find?_range_eq_none] at hf
    simpa using hf j hj
theorem rightA_le (l : List Sp) : (rightA l).1 ≤ l.length ∧ (rightA l).2 ≤ 15 := by
  unfold rightA
  cases hf : (List.range l.length).find? (fun i => decide (badAt l i ≠ 0)) with
  | some i =>
    rw [List.find?_range_eq_some] at hf
    have := hf.2.1
    simp at this
    refine ⟨by simp; omega, ?_⟩
    simp only
    unfold badAt
    split
    · omega
    · split
      · omega
      · split
        · omega
        · split
          · omega
          · split
            · omega
            · split <;> omega
  | none => simp
/-- What a right row is. -/
theorem Rgt.row {l : List Sp} (h : Rgt l) {i : Nat} {x : Sp} (hx : l[i]? = some x) : runeB x.lo = true ∧ runeB x.hi = true ∧ x.lo ≤ x.hi := by
  have := h i (List.getElem?_eq_some_iff.1 hx).1
  unfold badAt at this
  rw [hx] at this
  simp only at this
  split at this
  · omega
  · rename_i h1
    split at this
    · omega
    · rename_i h2
      refine ⟨?_, ?_, by omega⟩
      · cases hb : runeB x.lo with
        | true => rfl
        | false => exact absurd (.inl hb) h1
      · cases hb : runeB x.hi with
        | true => rfl
        | false => exact absurd (.inr hb) h1
theorem Rgt.next {l : List Sp} (h : Rgt l) {i : Nat} {x y : Sp} (hx : l[i]? = some x) (hy : l[i + 1]? = some y) : x.hi < y.lo := by
  have := h (i + 1) (List.getElem?_eq_some_iff.1 hy).1
  unfold badAt at this
  rw [hy] at this
  simp only [hx] at this
  split at this
  · omega
  · split at this
    · omega
    · split at this <;> omega
theorem Rgt.rise {l : List Sp} (h : Rgt l) {i j : Nat} {x y : Sp} (hij : i < j) (hx : l[i]? = some x) (hy : l[j]? = some y) : x.hi < y.lo := by
  induction j generalizing y with
  | zero => omega
  | succ j ih =>
    by_cases e : i = j
    · subst e; exact h.next hx hy
    · have hj : j < l.length := by have := (List.getElem?_eq_some_iff.1 hy).1; omega
      have hz : l[j]? = some l[j] := List.getElem?_eq_getElem hj
      have h1 := ih (by omega) hz
      have h2 := h.next hz hy
      have h3 := (h.row hz).2.2
      omega
theorem Rgt.nil : Rgt [] := fun j hj => by simp at hj
/-- Does r lie in it? -/
def inB (l : List Sp) (r : Int) : Bool := runeB r && l.any fun x => decide (x.lo ≤ r) && decide (r ≤ x.hi)
/-- The first span of a that meets b. -/
def meets (b : List Sp) (x : Sp) : Bool := b.any (ovB x)
def meetA (a b : List Sp) : Nat × Bool :=
  match (List.range a.length).find? (fun i => (a[i]?).any (meets b)) with
  | some i => (i, true)
  | none => (0, false)
theorem meetA_some {a b : List Sp} {k : Nat} {x : Sp} (hx : a[k]? = some x) (hb : ∀ (j : Nat) (y : Sp), j < k → a[j]? = some y → meets b y = false) (h : meets b x = true) : meetA a b = (k, true) := by
  have : (List.range a.length).find? (fun i => (a[i]?).any (meets b)) = some k := by
    rw [List.find?_range_eq_some]
    refine ⟨by rw [hx]; exact h, by simpa using (List.getElem?_eq_some_iff.1 hx).1, fun j hj => ?_⟩
    have hj' : j < a.length := by have := (List.getElem?_eq_some_iff.1 hx).1; omega
    have hz : a[j]? = some a[j] := List.getElem?_eq_getElem hj'
    rw [hz]
    simpa using hb j _ hj hz
  unfold meetA
  rw [this]
theorem meetA_none {a b : List Sp} (hb : ∀ (j : Nat) (y : Sp), a[j]? = some y → meets b y = false) : meetA a b = (0, false) := by
  have : (List.range a.length).find? (fun i => (a[i]?).any (meets b)) = none := by
    rw [List.find?_range_eq_none]
    intro j hj
    have hz : a[j]? = some a[j] := List.getElem?_eq_getElem hj
    rw [hz]
    simpa using hb j _ hz
  unfold meetA
  rw [this]
theorem meetA_true {a b : List Sp} : (meetA a b).2 = true ↔ ∃ (i : Nat) (x : Sp), a[i]? = some x ∧ meets b x = true := by
  unfold meetA
  cases hf : (List.range a.length).find? (fun i => (a[i]?).any (meets b)) with
  | some i =>
    rw [List.find?_range_eq_some] at hf
    obtain ⟨h1, h2, _⟩ := hf
    simp at h2
    rw [List.getElem?_eq_getElem h2] at h1
    simp only [true_iff]
    exact ⟨i, _, List.getElem?_eq_getElem h2, h1⟩
  | none =>
    rw [List.find?_range_eq_none] at hf
    simp only [Bool.false_eq_true, false_iff]
    rintro ⟨i, x, hx, hm⟩
    have := hf i (List.getElem?_eq_some_iff.1 hx).1
    rw [hx] at this
    simp [hm] at this
theorem meets_true {b : List Sp} {x : Sp} : meets b x = true ↔ ∃ (j : Nat) (y : Sp), b[j]? = some y ∧ ovB x y = true := by
  unfold meets
  rw [List.any_eq_true]
  constructor
  · rintro ⟨y, hy, ho⟩
    obtain ⟨j, hj⟩ := List.getElem?_of_mem hy
    exact ⟨j, y, hj, ho⟩
  · rintro ⟨j, y, hj, ho⟩
    exact ⟨y, List.mem_of_getElem? hj, ho⟩
theorem meets_false {b : List Sp} {x : Sp} (h : ∀ (j : Nat) (y : Sp), b[j]? = some y → ovB x y = false) : meets b x = false := by
  cases hm : meets b x with
  | false => rfl
  | true =>
    obtain ⟨j, y, hj, ho⟩ := meets_true.1 hm
    rw [h j y hj] at ho
    cases ho
theorem ovB_comm (x y : Sp) : ovB x y = ovB y x := by unfold ovB; rw [Int.max_comm, Int.min_comm]
theorem meetA_comm (a b : List Sp) : (meetA a b).2 = (meetA b a).2 := by
  have h : ∀ a b : List Sp, (meetA a b).2 = true → (meetA b a).2 = true := by
    intro a b h
    obtain ⟨i, x, hx, hm⟩ := meetA_true.1 h
    obtain ⟨j, y, hy, ho⟩ := meets_true.1 hm
    exact meetA_true.2 ⟨j, y, hy, meets_true.2 ⟨i, x, hx, by rw [ovB_comm]; exact ho⟩⟩
  cases h1 : (meetA a b).2 with
  | true => rw [h a b h1]
  | false =>
    cases h2 : (meetA b a).2 with
    | false => rfl
    | true => rw [h b a h2] at h1; cases h1
/-- A rune of both: they meet. -/
theorem meet_of_in {a b : List Sp} {r : Int} (ha : inB a r = true) (hb : inB b r = true) : (meetA a b).2 = true := by
  unfold inB at ha hb
  simp only [Bool.and_eq_true, List.any_eq_true, decide_eq_true_eq] at ha hb
  obtain ⟨_, x, hx, h1, h2⟩ := ha
  obtain ⟨_, y, hy, h3, h4⟩ := hb
  obtain ⟨i, hi⟩ := List.getElem?_of_mem hx
  obtain ⟨j, hj⟩ := List.getElem?_of_mem hy
  refine meetA_true.2 ⟨i, x, hi, meets_true.2 ⟨j, y, hj, ?_⟩⟩
  unfold ovB
  simp only [decide_eq_true_eq]
  omega
end Go.Proofs.YtplmmamebfpcjaaGreatDoor
end
section
/- Classes: what New asks, rule by rule; kinds: the mathematics. -/
namespace Go.Proofs.YtplmmamebfpcjaaGreatDoor
/-- The list of the number k. -/
def pickL (A B C : List Sp) : Nat → List Sp
  | 1 => A
  | 2 => B
  | 3 => C
  | _ => []
/-- Too many spans? -/
def manyA (l : List Sp) : Nat × Nat := if 512 < l.length then (512, 4) else (0, 0)
/-- One list ahead more. -/
def ovS (X : List Sp) (f : Int) (Y : List Sp) : Int := if (meetA X Y).2 = true ∧ (f < 0 ∨ ((meetA X Y).1 : Int) < f) then ((meetA X Y).1 : Int) else f
/-- The first row of X that meets one of L; -1: there is none. -/
def ovI (X : List Sp) (L : List (List Sp)) : Int := L.foldl (ovS X) (-1)
def overA (X : List Sp) (L : List (List Sp)) : Nat × Nat := if ovI X L < 0 then (0, 0) else ((ovI X L).toNat, 16)
/-- The lists ahead of the number k. -/
def ahead (A B : List Sp) (k : Nat) : List (List Sp) := [[], A, B].take k
/-- The rule r at the list i: the row, and why. -/
def ruleA (A B C : List Sp) (r i : Nat) : Nat × Nat :=
  match r with
  | 0 => manyA (pickL A B C i)
  | 1 => rightA (pickL A B C i)
  | _ => overA (pickL A B C i) (ahead A B i)
def ent (A B C : List Sp) (q : Nat) : Nat × Nat := ruleA A B C (q / 3) (q % 3 + 1)
/-- The kind of a rune. -/
def kindOf (A B C : List Sp) (r : Int) : Nat := if inB A r then 1 else if inB B r then 2 else if inB C r then 3 else 4
/-- The last rule. -/
def blankB (A B C : List Sp) : Bool := !inB C 32 || inB A 39 || inB B 39 || inB C 39
/-- Why, which list, which row. -/
def checkA (A B C : List Sp) : Nat × Nat × Nat :=
  match (List.range 9).find? (fun q => decide ((ent A B C q).2 ≠ 0)) with
  | some q => ((ent A B C q).2, q % 3 + 1, (ent A B C q).1)
  | none => if blankB A B C then (20, 3, 0) else (0, 0, 0)
/-- All that is asked ahead of place q holds. -/
def Pass (A B C : List Sp) (q : Nat) : Prop := ∀ j, j < q → (ent A B C j).2 = 0
theorem Pass.zero (A B C : List Sp) : Pass A B C 0 := fun _ h => absurd h (Nat.not_lt_zero _)
theorem Pass.succ {A B C : List Sp} {q : Nat} (h : Pass A B C q) (h0 : (ent A B C q).2 = 0) : Pass A B C (q + 1) := fun j hj => by
  by_cases e : j = q
  · subst e; exact h0
  · exact h j (by omega)
theorem Pass.le {A B C : List Sp} {q p : Nat} (h : Pass A B C q) (hp : p ≤ q) : Pass A B C p := fun j hj => h j (by omega)
theorem check_bad {A B C : List Sp} {q : Nat} (hq : q < 9) (h : Pass A B C q) (h0 : (ent A B C q).2 ≠ 0) : checkA A B C = ((ent A B C q).2, q % 3 + 1, (ent A B C q).1) := by
  have : (List.range 9).find? (fun q => decide ((ent A B C q).2 ≠ 0)) = some q := by
    rw [List.find?_range_eq_some]
    exact ⟨by simpa using h0, by simpa using hq, fun j hj => by simpa using h j hj⟩
  unfold checkA
  rw [this]
theorem check_end {A B C : List Sp} (h : Pass A B C 9) : checkA A B C = if blankB A B C then (20, 3, 0) else (0, 0, 0) := by
  have : (List.range 9).find? (fun q => decide ((ent A B C q).2 ≠ 0)) = none := by
    rw [List.find?_range_eq_none]
    exact fun j hj => by simpa using h j hj
  unfold checkA
  rw [this]
theorem check_pass {A B C : List Sp} (h : (checkA A B C).1 = 0) : Pass A B C 9 ∧ blankB A B C = false := by
  cases hf : (List.range 9).find? (fun q => decide ((ent A B C q).2 ≠ 0)) with
  | some q =>
    unfold checkA at h
    rw [hf] at h
    rw [List.find?_range_eq_some] at hf
    have := hf.1
    simp at this
    exact absurd h this
  | none =>
    unfold checkA at h
    rw [hf] at h
    rw [List.find?_range_eq_none] at hf
    refine ⟨fun j hj => by simpa using hf j hj, ?_⟩
    cases hb : blankB A B C with
    | false => rfl
    | true => rw [hb] at h; simp at h
theorem check_zero {A B C : List Sp} (h : (checkA A B C).1 = 0) : checkA A B C = (0, 0, 0) := by
  obtain ⟨h1, h2⟩ := check_pass h
  rw [check_end h1, h2]
  rfl
theorem ent_many (A B C : List Sp) {q : Nat} (hq : q < 3) : ent A B C q = manyA (pickL A B C (q + 1)) := by
  unfold ent
  rw [show q / 3 = 0 by omega, show q % 3 = q by omega]; rfl
theorem ent_right (A B C : List Sp) {q : Nat} (hq : q < 3) : ent A B C (3 + q) = rightA (pickL A B C (q + 1)) := by
  unfold ent
  rw [show (3 + q) / 3 = 1 by omega, show (3 + q) % 3 = q by omega]; rfl
theorem ent_over (A B C : List Sp) {q : Nat} (hq : q < 3) : ent A B C (6 + q) = overA (pickL A B C (q + 1)) (ahead A B (q + 1)) := by
  unfold ent
  rw [show (6 + q) / 3 = 2 by omega, show (6 + q) % 3 = q by omega]; rfl
theorem ent_rule (A B C : List Sp) {r i : Nat} (hi : 1 ≤ i) (hi3 : i ≤ 3) : ent A B C (3 * r + (i - 1)) = ruleA A B C r i := by
  unfold ent
  rw [show (3 * r + (i - 1)) / 3 = r by omega, show (3 * r + (i - 1)) % 3 + 1 = i by omega]
theorem manyA_zero {l : List Sp} (h : (manyA l).2 = 0) : l.length ≤ 512 := by
  unfold manyA at h
  split at h
  · simp at h
  · omega
theorem Pass.len {A B C : List Sp} {q : Nat} (h : Pass A B C q) (hq : 3 ≤ q) : A.length ≤ 512 ∧ B.length ≤ 512 ∧ C.length ≤ 512 := by
  have h0 := h 0 (by omega)
  have h1 := h 1 (by omega)
  have h2 := h 2 (by omega)
  rw [ent_many _ _ _ (by omega)] at h0 h1 h2
  exact ⟨manyA_zero h0, manyA_zero h1, manyA_zero h2⟩
theorem Pass.rgt {A B C : List Sp} {q : Nat} (h : Pass A B C q) (hq : 6 ≤ q) : Rgt A ∧ Rgt B ∧ Rgt C := by
  have h0 := h (3 + 0) (by omega)
  have h1 := h (3 + 1) (by omega)
  have h2 := h (3 + 2) (by omega)
  rw [ent_right _ _ _ (by omega)] at h0 h1 h2
  exact ⟨rightA_zero h0, rightA_zero h1, rightA_zero h2⟩
theorem ovS_neg {X Y : List Sp} {f : Int} : ovS X f Y < 0 ↔ f < 0 ∧ (meetA X Y).2 = false := by
  unfold ovS
  cases hm : (meetA X Y).2 with
  | false => simp
  | true =>
    split
    · constructor
      · intro h; omega
      · rintro ⟨_, h⟩; cases h
    · rename_i h
      constructor
      · intro h'; exact absurd ⟨rfl, .inl h'⟩ h
      · rintro ⟨_, h'⟩; cases h'
theorem ovF_neg {X : List Sp} (L : List (List Sp)) (f : Int) : L.foldl (ovS X) f < 0 ↔ f < 0 ∧ ∀ Y, Y ∈ L → (meetA X Y).2 = false := by
  induction L generalizing f with
  | nil => simp
  | cons Z L ih =>
    rw [List.foldl_cons, ih, ovS_neg]
    simp [and_assoc]
theorem ovI_neg {X : List Sp} {L : List (List Sp)} : ovI X L < 0 ↔ ∀ Y, Y ∈ L → (meetA X Y).2 = false := by
  unfold ovI
  rw [ovF_neg]
  simp
theorem ovI_take {X : List Sp} {L : List (List Sp)} {j : Nat} {Y : List Sp} (h : L[j]? = some Y) : ovI X (L.take (j + 1)) = ovS X (ovI X (L.take j)) Y := by
  unfold ovI
  rw [List.take_add_one, h, List.foldl_append]
  rfl
theorem meetA_nil (X : List Sp) : meetA X [] = (0, false) := meetA_none fun _ _ _ => by simp [meets]
theorem ovS_nil (X : List Sp) (f : Int) : ovS X f [] = f := by
  unfold ovS
  rw [meetA_nil]
  simp
theorem ovI_nil (X : List Sp) (L : List (List Sp)) : ovI X ([] :: L) = ovI X L := by
  unfold ovI
  rw [List.foldl_cons, ovS_nil]
theorem Pass.apart {A B C : List Sp} (h : Pass A B C 9) : (meetA B A).2 = false ∧ (meetA C A).2 = false ∧ (meetA C B).2 = false := by
  have h1 := h (6 + 1) (by omega)
  have h2 := h (6 + 2) (by omega)
  rw [ent_over _ _ _ (by omega)] at h1 h2
  have ho : ∀ X L, (overA X L).2 = 0 → ∀ Y, Y ∈ L → (meetA X Y).2 = false := by
    intro X L h
    unfold overA at h
    split at h
    · rename_i hn
      exact ovI_neg.1 hn
    · simp at h
  exact ⟨ho _ _ h1 A (by simp [ahead]), ho _ _ h2 A (by simp [ahead]), ho _ _ h2 B (by simp [ahead])⟩
theorem not_in {a b : List Sp} {r : Int} (h : (meetA a b).2 = false) (ha : inB a r = true) : inB b r = false := by
  cases hb : inB b r with
  | false => rfl
  | true => rw [meet_of_in ha hb] at h; cases h
theorem blank_of {A B C : List Sp} (h : Pass A B C 9) : (decide (kindOf A B C 32 ≠ 3) || decide (kindOf A B C 39 ≠ 4)) = blankB A B C := by
  obtain ⟨h1, h2, h3⟩ := h.apart
  unfold kindOf blankB
  cases hc : inB C 32 with
  | true =>
    rw [not_in h2 hc, not_in h3 hc]
    cases inB A 39 <;> cases inB B 39 <;> cases inB C 39 <;> simp
  | false =>
    cases inB A 32 <;> cases inB B 32 <;> simp
theorem kindOf_range (A B C : List Sp) (r : Int) : 1 ≤ kindOf A B C r ∧ kindOf A B C r ≤ 4 := by
  unfold kindOf
  split
  · omega
  · split
    · omega
    · split <;> omega
theorem check_row {A B C : List Sp} : (checkA A B C).1 ≤ 20 ∧ (checkA A B C).2.1 ≤ 3 := by
  unfold checkA
  split
  · rename_i q hf
    rw [List.find?_range_eq_some] at hf
    refine ⟨?_, by simp only; omega⟩
    simp only
    unfold ent ruleA
    split
    · unfold manyA; split <;> simp
    · have := (rightA_le (pickL A B C (q % 3 + 1))).2; omega
    · unfold overA; split <;> simp
  · split <;> simp
end Go.Proofs.YtplmmamebfpcjaaGreatDoor
end
section
/- Models: what they are, and which are right: the mathematics. -/
namespace Go.Proofs.YtplmmamebfpcjaaGreatDoor
/-- A merge. -/
structure Mg where
  l : Int
  r : Int
  i : Int
/-- The text of one byte. -/
def byteS (id : Int) : ByteArray := ⟨#[UInt8.ofNat id.toNat]⟩
/-- An id's word. -/
def wordM (ws : List ByteArray) (id : Int) : Option ByteArray :=
  if 0 ≤ id ∧ id < 256 then some (byteS id) else if 256 ≤ id then ws[(id - 256).toNat]? else none
/-- Is an id a byte's, or that of one of the first n merges? -/
def madeM (ms : List Mg) (n : Nat) (id : Int) : Bool := (decide (0 ≤ id) && decide (id < 256)) || (decide (256 ≤ id) && (ms.take n).any fun x => x.i == id)
/-- The words of two ids, one behind the other. -/
def joinM (ws : List ByteArray) (l r : Int) : ByteArray := (wordM ws l).getD ⟨#[]⟩ ++ (wordM ws r).getD ⟨#[]⟩
def badW (ws : List ByteArray) (i : Nat) : Nat :=
  match ws[i]? with
  | none => 0
  | some w => if w.size < 2 ∨ 256 < w.size then 21 else if (ws.take i).any (fun v => decide (v = w)) = true then 22 else 0
def cutM (ws : List ByteArray) (ms : List Mg) (i : Nat) : Nat :=
  match ms[i]? with
  | none => 0
  | some x => if x.i < 256 ∨ (ws.length : Int) ≤ x.i - 256 ∨ madeM ms i x.i = true then 24 else if madeM ms i x.l = false ∨ madeM ms i x.r = false then 23 else if wordM ws x.i ≠ some (joinM ws x.l x.r) then 25 else 0
def pairB (x : Mg) (l r : Int) : Bool := x.l == l && x.r == r
def badM (ws : List ByteArray) (ms : List Mg) (i : Nat) : Nat :=
  if cutM ws ms i ≠ 0 then cutM ws ms i else
  match ms[i]? with
  | none => 0
  | some x => if (ms.take i).any (fun y => pairB y x.l x.r) = true then 22 else 0
/-- The first of n that f refuses. -/
def firstBad (f : Nat → Nat) (n : Nat) : Nat × Nat :=
  match (List.range n).find? (fun i => decide (f i ≠ 0)) with
  | some i => (f i, i)
  | none => (0, 0)
theorem firstBad_some {f : Nat → Nat} {n k : Nat} (hk : k < n) (hb : ∀ j, j < k → f j = 0) (h : f k ≠ 0) : firstBad f n = (f k, k) := by
  have : (List.range n).find? (fun i => decide (f i ≠ 0)) = some k := by
    rw [List.find?_range_eq_some]
    refine ⟨by simpa using h, by simpa using hk, fun j hj => by simpa using hb j hj⟩
  unfold firstBad
  rw [this]
theorem firstBad_none {f : Nat → Nat} {n : Nat} (h : ∀ j, j < n → f j = 0) : firstBad f n = (0, 0) := by
  have : (List.range n).find? (fun i => decide (f i ≠ 0)) = none := by
    rw [List.find?_range_eq_none]
    intro i hi
    simpa using h i hi
  unfold firstBad
  rw [this]
theorem firstBad_cases (f : Nat → Nat) (n : Nat) : (∀ j, j < n → f j = 0) ∧ firstBad f n = (0, 0) ∨ ∃ k, k < n ∧ (∀ j, j < k → f j = 0) ∧ f k ≠ 0 ∧ firstBad f n = (f k, k) := by
  cases h : (List.range n).find? (fun i => decide (f i ≠ 0)) with
  | none =>
    left
    have h' := List.find?_range_eq_none.1 h
    have h2 : ∀ j, j < n → f j = 0 := fun j hj => by simpa using h' j hj
    exact ⟨h2, firstBad_none h2⟩
  | some k =>
    right
    obtain ⟨h1, h2, h3⟩ := List.find?_range_eq_some.1 h
    have hk : k < n := by simpa using h2
    have hb : ∀ j, j < k → f j = 0 := fun j hj => by simpa using h3 j hj
    have hn : f k ≠ 0 := by simpa using h1
    exact ⟨k, hk, hb, hn, firstBad_some hk hb hn⟩
theorem firstBad_zero {f : Nat → Nat} {n : Nat} (h : (firstBad f n).1 = 0) : ∀ j, j < n → f j = 0 := by
  rcases firstBad_cases f n with ⟨h1, _⟩ | ⟨k, _, _, h3, h4⟩
  · exact h1
  · rw [h4] at h; exact absurd h h3
theorem firstBad_congr {f g : Nat → Nat} {n : Nat} (h : ∀ i, i < n → (∀ j, j < i → f j = 0) → f i = g i) : firstBad f n = firstBad g n := by
  have hz : ∀ i, i ≤ n → (∀ j, j < i → f j = 0) → ∀ j, j < i → g j = 0 := fun i hi hf j hj => by
    rw [← h j (by omega) (fun k hk => hf k (by omega))]; exact hf j hj
  rcases firstBad_cases f n with ⟨h1, h2⟩ | ⟨k, h1, h2, h3, h4⟩
  · rw [h2, firstBad_none (hz n (Nat.le_refl _) h1)]
  · have e := h k h1 h2
    rw [h4, firstBad_some h1 (hz k (by omega) h2) (by rw [← e]; exact h3), e]
/-- P5.1. -/
def checkD (ws : List ByteArray) (ms : List Mg) (A B C : List Sp) : Nat × Nat × Nat :=
  if 4096 < ms.length then (4, 5, 4096)
  else if ws.length ≠ ms.length then (4, 4, min ws.length ms.length)
  else if (checkA A B C).1 ≠ 0 then checkA A B C
  else if (firstBad (badW ws) ws.length).1 ≠ 0 then ((firstBad (badW ws) ws.length).1, 4, (firstBad (badW ws) ws.length).2)
  else if (firstBad (badM ws ms) ms.length).1 ≠ 0 then ((firstBad (badM ws ms) ms.length).1, 5, (firstBad (badM ws ms) ms.length).2)
  else (0, 0, 0)
/-- Words that are right: each is. -/
def WRgt (ws : List ByteArray) : Prop := ∀ j, j < ws.length → badW ws j = 0
theorem WRgt.size {ws : List ByteArray} (h : WRgt ws) {j : Nat} {w : ByteArray} (hj : ws[j]? = some w) : 2 ≤ w.size ∧ w.size ≤ 256 := by
  have := h j (List.getElem?_eq_some_iff.1 hj).1
  unfold badW at this
  rw [hj] at this
  simp only at this
  by_cases hc : w.size < 2 ∨ 256 < w.size
  · rw [if_pos hc] at this; cases this
  · omega
theorem WRgt.inj {ws : List ByteArray} (h : WRgt ws) {i j : Nat} {w : ByteArray} (hi : ws[i]? = some w) (hj : ws[j]? = some w) : i = j := by
  have key : ∀ i j, i < j → ws[i]? = some w → ws[j]? = some w → False := fun i j hij hi hj => by
    have := h j (List.getElem?_eq_some_iff.1 hj).1
    unfold badW at this
    rw [hj] at this
    simp only at this
    split at this
    · cases this
    · rw [if_pos] at this
      · cases this
      · rw [List.any_eq_true]
        refine ⟨w, ?_, by simp⟩
        rw [List.mem_iff_getElem?]
        exact ⟨i, by rw [List.getElem?_take_of_lt hij]; exact hi⟩
  rcases Nat.lt_trichotomy i j with h1 | h1 | h1
  · exact (key i j h1 hi hj).elim
  · exact h1
  · exact (key j i h1 hj hi).elim
theorem cutM_zero {ws : List ByteArray} {ms : List Mg} {i : Nat} {x : Mg} (hx : ms[i]? = some x) (h : cutM ws ms i = 0) :
    256 ≤ x.i ∧ x.i - 256 < ws.length ∧ madeM ms i x.i = false ∧ madeM ms i x.l = true ∧ madeM ms i x.r = true ∧ wordM ws x.i = some (joinM ws x.l x.r) := by
  unfold cutM at h
  rw [hx] at h
  simp only at h
  by_cases h1 : x.i < 256 ∨ (ws.length : Int) ≤ x.i - 256 ∨ madeM ms i x.i = true
  · rw [if_pos h1] at h; cases h
  · rw [if_neg h1] at h
    by_cases h2 : madeM ms i x.l = false ∨ madeM ms i x.r = false
    · rw [if_pos h2] at h; cases h
    · rw [if_neg h2] at h
      by_cases h3 : wordM ws x.i ≠ some (joinM ws x.l x.r)
      · rw [if_pos h3] at h; cases h
      · refine ⟨by omega, by omega, by simpa using fun e => h1 (.inr (.inr e)), by simpa using fun e => h2 (.inl e), by simpa using fun e => h2 (.inr e), by simpa using h3⟩
theorem wordM_in {ws : List ByteArray} {id : Int} (h : 256 ≤ id) : wordM ws id = ws[(id - 256).toNat]? := by
  unfold wordM
  rw [if_neg (by omega), if_pos h]
theorem made_ahead {ms : List Mg} {i j : Nat} {x : Mg} (hx : ms[j]? = some x) (hj : j < i) (h : 256 ≤ x.i) : madeM ms i x.i = true := by
  unfold madeM
  rw [Bool.or_eq_true, Bool.and_eq_true, Bool.and_eq_true]
  refine .inr ⟨by simpa using h, ?_⟩
  rw [List.any_eq_true]
  refine ⟨x, ?_, by simp⟩
  rw [List.mem_iff_getElem?]
  exact ⟨j, by rw [List.getElem?_take_of_lt hj]; exact hx⟩
/-- A pair that stands twice is refused for another fault. -/
theorem badM_cut {ws : List ByteArray} {ms : List Mg} {i : Nat} (hW : WRgt ws) (hc : ∀ j, j < i → cutM ws ms j = 0) : cutM ws ms i = badM ws ms i := by
  unfold badM
  by_cases h0 : cutM ws ms i ≠ 0
  · rw [if_pos h0]
  · rw [if_neg h0]
    have h0 : cutM ws ms i = 0 := by simpa using h0
    cases hx : ms[i]? with
    | none => simpa using h0
    | some x =>
      simp only
      rw [if_neg, h0]
      intro ha
      obtain ⟨y, hy, hp⟩ := List.any_eq_true.1 ha
      obtain ⟨j, hj⟩ := List.mem_iff_getElem?.1 hy
      have hji : j < i := by
        have := (List.getElem?_eq_some_iff.1 hj).1
        simp at this; omega
      rw [List.getElem?_take_of_lt hji] at hj
      obtain ⟨a1, a2, a3, -, -, a6⟩ := cutM_zero hx h0
      obtain ⟨b1, b2, -, -, -, b6⟩ := cutM_zero hj (hc j hji)
      unfold pairB at hp
      have e1 : y.l = x.l ∧ y.r = x.r := by simpa using hp
      rw [e1.1, e1.2, ← a6, wordM_in a1, wordM_in b1] at b6
      have hlt : (x.i - 256).toNat < ws.length := by omega
      have e2 := hW.inj (List.getElem?_eq_getElem hlt) (b6.trans (List.getElem?_eq_getElem hlt))
      have e3 : x.i = y.i := by omega
      rw [e3, made_ahead hj hji b1] at a3
      cases a3
theorem first_cut {ws : List ByteArray} {ms : List Mg} (hW : WRgt ws) (n : Nat) : firstBad (cutM ws ms) n = firstBad (badM ws ms) n :=
  firstBad_congr fun _ _ hb => badM_cut hW hb
/-- The rank of a pair. -/
def rankM (ms : List Mg) (l r : Int) : Option Nat := ms.findIdx? fun x => pairB x l r
/-- The greatest number of bytes. -/
def longM (ws : List ByteArray) : Nat := ws.foldl (fun n w => if n < w.size then w.size else n) 1
theorem longM_snoc (ws : List ByteArray) (w : ByteArray) : longM (ws ++ [w]) = if longM ws < w.size then w.size else longM ws := by
  unfold longM
  rw [List.foldl_append]
  rfl
theorem longM_step (ws : List ByteArray) (k : Nat) (w : ByteArray) (h : ws[k]? = some w) : longM (ws.take (k + 1)) = if longM (ws.take k) < w.size then w.size else longM (ws.take k) := by
  rw [← longM_snoc]
  congr 1
  rw [List.take_add_one, h]
  rfl
theorem rankM_step (ms : List Mg) (k : Nat) (x : Mg) (h : ms[k]? = some x) (l r : Int) : rankM (ms.take (k + 1)) l r = match rankM (ms.take k) l r with | some i => some i | none => if pairB x l r then some k else none := by
  have e : ms.take (k + 1) = ms.take k ++ [x] := by rw [List.take_add_one, h]; rfl
  have hk : k < ms.length := (List.getElem?_eq_some_iff.1 h).1
  unfold rankM
  rw [e, List.findIdx?_append]
  cases h1 : (ms.take k).findIdx? (fun x => pairB x l r) with
  | some i => simp
  | none =>
    simp only [Option.none_or, List.findIdx?_cons, List.findIdx?_nil]
    have hl : (ms.take k).length = k := by simp; omega
    rw [hl]
    cases hp : pairB x l r <;> simp
end Go.Proofs.YtplmmamebfpcjaaGreatDoor
end
section
/- What a list of bytes in memory is, and that it stays so while new memory is made. -/
namespace Go.Proofs.YtplmmamebfpcjaaGreatDoor.Oc
set_option maxRecDepth 100000
open Go.RowKit
/-- The slice that begins at 'a' holds the bytes l. -/
def BS (w : World) (a : Option Addr) (l : List UInt8) : Prop :=
  l = [] ∨ ∃ b off, a = some ⟨b, off, none⟩ ∧ ∀ j, j < l.length → w.cell? ⟨b, off + j, none⟩ = some (.int .u8 ((l.getD j 0).toNat : Int))
theorem BS.below {w w' : World} {a : Option Addr} {l : List UInt8} (h : BS w a l) (hb : Below w.heap.size w w') : BS w' a l := by
  rcases h with h | ⟨b, off, rfl, hc⟩
  · exact .inl h
  · refine .inr ⟨b, off, rfl, fun j hj => ?_⟩
    have h1 := hc j hj
    rw [hb.cell (World.block_lt_of_cell? w _ h1)]
    exact h1
theorem BS.nil (w : World) (a : Option Addr) : BS w a [] := .inl rfl
theorem BS.take {w : World} {a : Option Addr} {l : List UInt8} (h : BS w a l) (n : Nat) : BS w a (l.take n) := by
  rcases h with rfl | ⟨b, off, rfl, hc⟩
  · exact .inl (by simp)
  · refine .inr ⟨b, off, rfl, fun j hj => ?_⟩
    have hj' : j < l.length := by simp at hj; omega
    have hjn : j < n := by simp at hj; omega
    rw [hc j hj']
    simp [List.getD, hjn]
/-- A list's cells. -/
def cellsOf (l : List UInt8) : List Value := l.map fun c => .int .u8 (c.toNat : Int)
theorem cellsOf_get (l : List UInt8) (j : Nat) (h : j < l.length) : (cellsOf l)[j]? = some (.int .u8 ((l.getD j 0).toNat : Int)) := by
  simp [cellsOf, List.getD, List.getElem?_eq_getElem h]
theorem BS.new (w : World) (l : List UInt8) (t : TypeId) : BS (w.alloc (.cells (cellsOf l).toArray t)) (some ⟨w.heap.size, 0, none⟩) l := by
  refine .inr ⟨_, _, rfl, fun j hj => ?_⟩
  rw [Nat.zero_add, World.cell?_alloc_at _ _ _ _ rfl]
  simpa using cellsOf_get l j hj
/-- The same of a constant text's bytes, which bear the run-time's mark behind them. -/
theorem BS.marked (w : World) (l : List UInt8) (t : TypeId) (fr : Nat × Nat) : BS (w.alloc (.cells (cellsOf l).toArray t fr)) (some ⟨w.heap.size, 0, none⟩) l := by
  refine .inr ⟨_, _, rfl, fun j hj => ?_⟩
  rw [Nat.zero_add, World.cell?_alloc_mark]
  simpa using cellsOf_get l j hj
/-- A slice of bytes that came in, as the frame of a statement's proof opens it. -/
def IsRow (k : IntKind) (w : World) (a : Option Addr) (len cap : Nat) (zs : List Int) : Prop :=
  (a = none ∧ len = 0 ∧ cap = 0 ∧ zs = []) ∨
  ∃ x, a = some x ∧ len ≤ cap ∧ cap ≤ maxLen ∧ zs.length = cap ∧ (∀ i, i < zs.length → w.cell? (x.add i) = some (.int k (zs.getD i 0))) ∧ ∀ n ∈ zs, (Lit.int k n).wf = true
theorem IsRow.view {w : World} {a : Option Addr} {len cap : Nat} {zs : List Int} (h : IsRow .u8 w a len cap zs) : ∃ l : List UInt8, len = l.length ∧ l.length ≤ cap ∧ cap ≤ 9223372036854775807 ∧ BS w a l := by
  rcases h with ⟨rfl, rfl, rfl, rfl⟩ | ⟨x, rfl, hl, hm, hz, hc, hwf⟩
  · exact ⟨[], rfl, by simp, by omega, .inl rfl⟩
  · unfold maxLen at hm
    refine ⟨(zs.take len).map fun z => UInt8.ofNat z.toNat, by simp; omega, by simp; omega, hm, ?_⟩
    by_cases h0 : len = 0
    · subst h0; exact .inl (by simp)
    · obtain ⟨b, off, rfl, hcell⟩ := Go.ints_at hc (by omega)
      refine .inr ⟨b, off, rfl, fun j hj => ?_⟩
      have hj' : j < len := by simp at hj; omega
      have hjz : j < zs.length := by omega
      rw [hcell j hjz]
      have hb := hwf (zs.getD j 0) (by simp [List.getD, List.getElem?_eq_getElem hjz])
      have hb' : 0 ≤ zs.getD j 0 ∧ zs.getD j 0 ≤ 255 := by simpa [Lit.wf, IntKind.min, IntKind.max, IntKind.signed, IntKind.bits] using hb
      have e : (((zs.take len).map fun z => UInt8.ofNat z.toNat).getD j 0).toNat = (zs.getD j 0).toNat := by
        simp only [List.getD, List.getElem?_map, List.getElem?_take, if_pos hj', List.getElem?_eq_getElem hjz, Option.map_some, Option.getD_some] at hb' ⊢
        rw [UInt8.toNat_ofNat']
        omega
      rw [e]
      congr 2
      omega
end Go.Proofs.YtplmmamebfpcjaaGreatDoor.Oc
end
section
/- octet.Get: its contract. -/
namespace Go.Proofs.YtplmmamebfpcjaaGreatDoor.Oc
set_option maxRecDepth 100000
open Go.RowKit
/-- The number that four bytes from i on are. -/
def num4 (l : List UInt8) (i : Nat) : Nat := (((l.getD i 0).toNat * 256 + (l.getD (i + 1) 0).toNat) * 256 + (l.getD (i + 2) 0).toNat) * 256 + (l.getD (i + 3) 0).toNat
theorem num4_lt (l : List UInt8) (i : Nat) : num4 l i < 4294967296 := by
  have h0 := (l.getD i 0).toNat_lt
  have h1 := (l.getD (i + 1) 0).toNat_lt
  have h2 := (l.getD (i + 2) 0).toNat_lt
  have h3 := (l.getD (i + 3) 0).toNat_lt
  unfold num4; omega
theorem or4 (x0 x1 x2 x3 : Nat) (b0 : x0 < 256) (b1 : x1 < 256) (b2 : x2 < 256) (b3 : x3 < 256) :
    bits BinOp.or IntKind.u32 (bits BinOp.or IntKind.u32 (bits BinOp.or IntKind.u32 ((x0 : Int) * 16777216) ((x1 : Int) * 65536)) ((x2 : Int) * 256)) (x3 : Int) = ((((x0 * 256 + x1) * 256 + x2) * 256 + x3 : Nat) : Int) := by
  have e0 : (x0 : Int) * 16777216 = ((x0 * 16777216 : Nat) : Int) := by omega
  have e1 : (x1 : Int) * 65536 = ((x1 * 65536 : Nat) : Int) := by omega
  have e2 : (x2 : Int) * 256 = ((x2 * 256 : Nat) : Int) := by omega
  rw [e0, e1, e2, u32_or_nat _ _ (by omega) (by omega), nat_join 24 _ _ (by omega) (by omega), u32_or_nat _ _ (by omega) (by omega), nat_join 16 _ _ (by omega) (by omega), u32_or_nat _ _ (by omega) (by omega), nat_join 8 _ _ (by omega) (by omega)]
  omega
set_option maxHeartbeats 400000 in
theorem get_arg (a : Option Addr) (len cap : Nat) (i : Int) (w : World) (h : i < 0 ∨ (len : Int) < i) :
    Calls Tryz.prog 103 #[.slice a len cap, .int .i64 i] w fun e w' => e = .returned (.tuple #[.int .u32 0, .int .i64 0, .int .i64 1]) ∧ Below w.heap.size w w' := by
  rcases h with h | h
  · go_enter Tryz.func103, Tryz.ntmps103
    go_wp2
    go_ret3
    exact ⟨rfl, Below.refl _ _⟩
  · have h' : ¬ i < 0 := by omega
    go_enter Tryz.func103, Tryz.ntmps103
    go_wp2
    go_ret3
    exact ⟨rfl, Below.refl _ _⟩
set_option maxHeartbeats 400000 in
theorem get_short (a : Option Addr) (len cap : Nat) (i : Int) (w : World) (_hlen : len ≤ 9223372036854775807) (h0 : 0 ≤ i) (h1 : i ≤ len) (h2 : (len : Int) - i < 4) :
    Calls Tryz.prog 103 #[.slice a len cap, .int .i64 i] w fun e w' => e = .returned (.tuple #[.int .u32 0, .int .i64 0, .int .i64 10]) ∧ Below w.heap.size w w' := by
  go_enter Tryz.func103, Tryz.ntmps103
  go_wp2
  go_ret3
  exact ⟨rfl, Below.refl _ _⟩
set_option maxHeartbeats 400000 in
theorem get_some (b off cap : Nat) (l : List UInt8) (i : Nat) (w : World) (hlen : l.length ≤ 9223372036854775807) (h : i + 4 ≤ l.length) (hcap : l.length ≤ cap)
    (hc : ∀ j, j < l.length → w.cell? ⟨b, off + j, none⟩ = some (.int .u8 ((l.getD j 0).toNat : Int))) :
    Calls Tryz.prog 103 #[.slice (some ⟨b, off, none⟩) l.length cap, .int .i64 i] w fun e w' => e = .returned (.tuple #[.int .u32 (num4 l i : Nat), .int .i64 (i + 4), .int .i64 0]) ∧ Below w.heap.size w w' := by
  have c0 := hc i (by omega)
  have c1 := hc (i + 1) (by omega)
  have c2 := hc (i + 2) (by omega)
  have c3 := hc (i + 3) (by omega)
  obtain ⟨x0, hx0⟩ : ∃ x : Nat, x = (l.getD i 0).toNat := ⟨_, rfl⟩
  obtain ⟨x1, hx1⟩ : ∃ x : Nat, x = (l.getD (i + 1) 0).toNat := ⟨_, rfl⟩
  obtain ⟨x2, hx2⟩ : ∃ x : Nat, x = (l.getD (i + 2) 0).toNat := ⟨_, rfl⟩
  obtain ⟨x3, hx3⟩ : ∃ x : Nat, x = (l.getD (i + 3) 0).toNat := ⟨_, rfl⟩
  rw [← hx0] at c0
  rw [← hx1] at c1
  rw [← hx2] at c2
  rw [← hx3] at c3
  have b0 : x0 < 256 := by rw [hx0]; exact UInt8.toNat_lt _
  have b1 : x1 < 256 := by rw [hx1]; exact UInt8.toNat_lt _
  have b2 : x2 < 256 := by rw [hx2]; exact UInt8.toNat_lt _
  have b3 : x3 < 256 := by rw [hx3]; exact UInt8.toNat_lt _
  have HX : Hid (num4 l i = ((x0 * 256 + x1) * 256 + x2) * 256 + x3) := by unfold num4; rw [hx0, hx1, hx2, hx3]; exact rfl
  clear hx0 hx1 hx2 hx3 hc
  rw [← Nat.add_assoc] at c1 c2 c3
  have hin : (0 : Int) ≤ i := by omega
  go_enter Tryz.func103, Tryz.ntmps103
  go_wp2
  go_quiet (fail)
  go_wp2
  go_ret3
  refine ⟨?_, below_drewN (Below.refl _ _) nq⟩
  rw [or4 x0 x1 x2 x3 b0 b1 b2 b3, HX.out]
  rfl
/-- What Get answers. -/
def getR (l : List UInt8) (i : Int) : Nat × Int × Int :=
  if i < 0 ∨ (l.length : Int) < i then (0, 0, 1) else if (l.length : Int) - i < 4 then (0, 0, 10) else (num4 l i.toNat, i + 4, 0)
/-- THE CONTRACT. -/
theorem get_any (a : Option Addr) (cap : Nat) (l : List UInt8) (i : Int) (w : World) (hlen : l.length ≤ 9223372036854775807) (hcap : l.length ≤ cap) (h : BS w a l) :
    Calls Tryz.prog 103 #[.slice a l.length cap, .int .i64 i] w fun e w' => e = .returned (.tuple #[.int .u32 ((getR l i).1 : Nat), .int .i64 (getR l i).2.1, .int .i64 (getR l i).2.2]) ∧ Below w.heap.size w w' := by
  unfold getR
  by_cases h1 : i < 0 ∨ (l.length : Int) < i
  · simp only [if_pos h1]
    exact get_arg a l.length cap i w h1
  · simp only [if_neg h1]
    by_cases h2 : (l.length : Int) - i < 4
    · simp only [if_pos h2]
      exact get_short a l.length cap i w hlen (by omega) (by omega) h2
    · simp only [if_neg h2]
      rcases h with rfl | ⟨b, off, rfl, hc⟩
      · simp at h1 h2; omega
      · obtain ⟨k, rfl⟩ : ∃ k : Nat, i = k := ⟨i.toNat, by omega⟩
        exact get_some b off cap l k w hlen (by omega) hcap hc
end Go.Proofs.YtplmmamebfpcjaaGreatDoor.Oc
end
section
/- octet.GetText: its contract. -/
namespace Go.Proofs.YtplmmamebfpcjaaGreatDoor.Oc
set_option maxRecDepth 100000
open Go.RowKit
theorem getR_lt (l : List UInt8) (i : Int) : (getR l i).1 < 4294967296 := by
  unfold getR
  split
  · simp
  · split
    · simp
    · exact num4_lt _ _
theorem getR_ok (l : List UInt8) (i : Int) (h : (getR l i).2.2 = 0) : ∃ k : Nat, i = k ∧ k + 4 ≤ l.length ∧ getR l i = (num4 l k, (k : Int) + 4, 0) := by
  unfold getR at h ⊢
  by_cases h1 : i < 0 ∨ (l.length : Int) < i
  · rw [if_pos h1] at h; simp at h
  · rw [if_neg h1] at h ⊢
    by_cases h2 : (l.length : Int) - i < 4
    · rw [if_pos h2] at h; simp at h
    · rw [if_neg h2]
      exact ⟨i.toNat, by omega, by omega, by simp; omega⟩
theorem getR_bad (l : List UInt8) (i : Int) (h : (getR l i).2.2 ≠ 0) : getR l i = (0, 0, (getR l i).2.2) := by
  unfold getR at h ⊢
  split
  · rfl
  · split
    · rfl
    · rename_i h1 h2; rw [if_neg h1, if_neg h2] at h; simp at h
/-- A text of these bytes. -/
def textOf (l : List UInt8) : ByteArray := ⟨l.toArray⟩
/-- What GetText answers. -/
def getTextR (l : List UInt8) (i most : Int) : List UInt8 × Int × Int :=
  if (getR l i).2.2 ≠ 0 then ([], 0, (getR l i).2.2) else
  if most < (getR l i).1 then ([], 0, 3) else
  if (l.length : Int) - (getR l i).2.1 < (getR l i).1 then ([], 0, 10) else
  ((l.drop (getR l i).2.1.toNat).take (getR l i).1, (getR l i).2.1 + (getR l i).1, 0)
theorem text_bytes {P : Program} (src e dst : TypeId) (hs : P.underlying src = some (.slice e)) (he : P.underlying e = some (.int .u8)) (hd : P.underlying dst = some .string)
    (b off cap : Nat) (l : List UInt8) (w : World) (hc : ∀ j, j < l.length → w.cell? ⟨b, off + j, none⟩ = some (.int .u8 ((l.getD j 0).toNat : Int))) :
    (convert src dst (.slice (some ⟨b, off, none⟩) l.length cap)).run P w = .ok (.string (textOf l)) w := by
  have h := run_convert_bytes_arg (P := P) w src e hs he b off l.length cap (l.map fun c => (c.toNat : Int)) (by simp) (fun j hj => by
    rw [hc j hj]; simp [List.getD, List.getElem?_eq_getElem hj]) dst hd
  rw [h]
  congr 2
  simp [strOfNums, textOf, List.map_map]
  apply List.ext_getElem
  · simp
  · intro j h1 h2; simp
theorem text_zero {P : Program} (src e dst : TypeId) (hs : P.underlying src = some (.slice e)) (he : P.underlying e = some (.int .u8)) (hd : P.underlying dst = some .string)
    (a : Option Addr) (cap : Nat) (w : World) : (convert src dst (.slice a 0 cap)).run P w = .ok (.string (textOf [])) w := by
  cases a with
  | none => exact run_convert_bytes_nil (P := P) w src e hs he 0 cap dst hd
  | some x =>
    have hl : (loadCells x 0).run P w = .ok #[] w := by rfl
    rw [run_convert_bytes_string w src dst e _ 0 cap hs he hd, run_bytesToString w x 0 cap [] (by simpa using hl)]
    rfl
set_option maxHeartbeats 400000 in
theorem gettext_some (b off cap : Nat) (l : List UInt8) (k : Nat) (most : Int) (w : World) (hlen : l.length ≤ 9223372036854775807) (hcap : l.length ≤ cap) (h4 : k + 4 ≤ l.length)
    (hm1 : -9223372036854775808 ≤ most) (hm2 : most ≤ 9223372036854775807)
    (hc : ∀ j, j < l.length → w.cell? ⟨b, off + j, none⟩ = some (.int .u8 ((l.getD j 0).toNat : Int))) (hg : getR l k = (num4 l k, (k : Int) + 4, 0)) :
    Calls Tryz.prog 104 #[.slice (some ⟨b, off, none⟩) l.length cap, .int .i64 k, .int .i64 most] w fun e w' =>
      e = .returned (.tuple #[.string (textOf (getTextR l k most).1), .int .i64 (getTextR l k most).2.1, .int .i64 (getTextR l k most).2.2]) ∧ Below w.heap.size w w' := by
  have hget := get_some b off cap l k w hlen h4 hcap hc
  have hn := num4_lt l k
  unfold getTextR
  simp only [hg]
  obtain ⟨n, hnd⟩ : ∃ n, n = num4 l k := ⟨_, rfl⟩
  rw [← hnd] at hget hn ⊢
  clear hnd hg
  by_cases h1 : most < 0
  · have hmn : most < n := by omega
    simp only [ne_eq, not_true_eq_false, if_false, if_pos hmn]
    go_enter Tryz.func104, Tryz.ntmps104
    go_wp2_with (go_at_call 103; refine (hget).mono ?_; rintro e w1 ⟨rfl, hb1⟩)
    go_ret3
    exact ⟨rfl, hb1⟩
  · obtain ⟨m, rfl⟩ : ∃ m : Nat, most = m := ⟨most.toNat, by omega⟩
    clear hm1
    by_cases h2 : m < n
    · have hmn : (m : Int) < n := by omega
      simp only [ne_eq, not_true_eq_false, if_false, if_pos hmn]
      go_enter Tryz.func104, Tryz.ntmps104
      go_wp2_with (go_at_call 103; refine (hget).mono ?_; rintro e w1 ⟨rfl, hb1⟩)
      go_ret3
      exact ⟨rfl, hb1⟩
    · have hmn : ¬ (m : Int) < n := by omega
      simp only [ne_eq, not_true_eq_false, if_false, if_neg hmn]
      by_cases h3 : l.length - (k + 4) < n
      · have h3' : (l.length : Int) - ((k : Int) + 4) < n := by omega
        simp only [if_pos h3']
        go_enter Tryz.func104, Tryz.ntmps104
        go_wp2_with (go_at_call 103; refine (hget).mono ?_; rintro e w1 ⟨rfl, hb1⟩)
        go_ret3
        exact ⟨rfl, hb1⟩
      · have h3' : ¬ (l.length : Int) - ((k : Int) + 4) < n := by omega
        simp only [if_neg h3']
        have et : ((l.drop ((k : Int) + 4).toNat).take n).length = n := by simp; omega
        by_cases hn0 : n = 0
        · subst hn0
          have hcv := fun (a : Option Addr) (c : Nat) (wx : World) => text_zero (P := Tryz.prog) 32 5 9 Tryz.underlying32 Tryz.underlying5 Tryz.underlying9 a c wx
          clear hn h2 hmn h3 h3' et
          go_enter Tryz.func104, Tryz.ntmps104
          go_wp2_with (go_at_call 103; refine (hget).mono ?_; rintro e w1 ⟨rfl, hb1⟩)
          all_goals go_ret3
          all_goals exact ⟨by simp, hb1⟩
        · have hcv := fun (wx : World) (hbx : Below w.heap.size w wx) => text_bytes (P := Tryz.prog) 32 5 9 Tryz.underlying32 Tryz.underlying5 Tryz.underlying9 b (off + (k + 4)) (cap - (k + 4)) ((l.drop ((k : Int) + 4).toNat).take n) wx (fun j hj => by
            rw [et] at hj
            have hj' : k + 4 + j < l.length := by omega
            have h1 := hc (k + 4 + j) hj'
            rw [show off + (k + 4) + j = off + (k + 4 + j) from by omega, hbx.cell (World.block_lt_of_cell? w _ h1), h1]
            have e4 : ((k : Int) + 4).toNat = k + 4 := by omega
            simp [List.getD, e4, hj])
          rw [et] at hcv
          have HC : Hid (∀ wx, Below w.heap.size w wx → (convert 32 9 (.slice (some ⟨b, off + (k + 4), none⟩) n (cap - (k + 4)))).run Tryz.prog wx = .ok (.string (textOf ((l.drop ((k : Int) + 4).toNat).take n))) wx) := hcv
          clear hcv et
          go_enter Tryz.func104, Tryz.ntmps104
          go_wp2_with (go_at_call 103; refine (hget).mono ?_; rintro e w1 ⟨rfl, hb1⟩; have hcv := HC.out _ hb1)
          go_ret3
          exact ⟨rfl, hb1⟩
theorem gettext_get (a : Option Addr) (cap : Nat) (l : List UInt8) (i most : Int) (w : World) (hlen : l.length ≤ 9223372036854775807) (hcap : l.length ≤ cap) (h : BS w a l) (hbad : (getR l i).2.2 ≠ 0) :
    Calls Tryz.prog 104 #[.slice a l.length cap, .int .i64 i, .int .i64 most] w fun e w' =>
      e = .returned (.tuple #[.string (textOf (getTextR l i most).1), .int .i64 (getTextR l i most).2.1, .int .i64 (getTextR l i most).2.2]) ∧ Below w.heap.size w w' := by
  have hget := get_any a cap l i w hlen hcap h
  have hb := getR_bad l i hbad
  unfold getTextR
  simp only [if_pos hbad]
  obtain ⟨e, he⟩ : ∃ e, e = (getR l i).2.2 := ⟨_, rfl⟩
  rw [hb, ← he] at hget
  rw [← he] at hbad ⊢
  have hbe : (e == 0) = false := by simpa using hbad
  clear he hb hbad
  go_enter Tryz.func104, Tryz.ntmps104
  go_wp2_with (go_at_call 103; refine (hget).mono ?_; rintro e w1 ⟨rfl, hb1⟩)
  go_ret3
  exact ⟨rfl, hb1⟩
/-- THE CONTRACT. -/
theorem gettext_any (a : Option Addr) (cap : Nat) (l : List UInt8) (i most : Int) (w : World) (hlen : l.length ≤ 9223372036854775807) (hcap : l.length ≤ cap) (h : BS w a l)
    (hm1 : -9223372036854775808 ≤ most) (hm2 : most ≤ 9223372036854775807) :
    Calls Tryz.prog 104 #[.slice a l.length cap, .int .i64 i, .int .i64 most] w fun e w' =>
      e = .returned (.tuple #[.string (textOf (getTextR l i most).1), .int .i64 (getTextR l i most).2.1, .int .i64 (getTextR l i most).2.2]) ∧ Below w.heap.size w w' := by
  by_cases hg : (getR l i).2.2 = 0
  · obtain ⟨k, rfl, h4, hg'⟩ := getR_ok l i hg
    rcases h with rfl | ⟨b, off, rfl, hc⟩
    · simp at h4
    · exact gettext_some b off cap l k most w hlen hcap h4 hm1 hm2 hc hg'
  · exact gettext_get a cap l i most w hlen hcap h hg
end Go.Proofs.YtplmmamebfpcjaaGreatDoor.Oc
end
section
/- Bytes in memory that a call itself made. -/
namespace Go.Proofs.YtplmmamebfpcjaaGreatDoor.Oc
set_option maxRecDepth 100000
open Go.RowKit
open Go.Joins
/-- A block of bytes that the call itself made. -/
def Own (w : World) (g : Nat) (L : List Value) : Prop := w.heap[g]? = some (.cells L.toArray 5 (0, 0))
theorem Own.below {w w' : World} {g : Nat} {L : List Value} {B : Nat} (h : Own w g L) (hb : Below B w w') (hg : g < B) : Own w' g L := by
  unfold Own; rw [hb.block g hg]; exact h
theorem Own.lt {w : World} {g : Nat} {L : List Value} (h : Own w g L) : g < w.heap.size := (Array.getElem?_eq_some_iff.1 h).1
theorem Own.cell {w : World} {g : Nat} {L : List Value} (h : Own w g L) (j : Nat) : w.cell? ⟨g, j, none⟩ = L[j]? := by
  rw [cell_of_block h]; simp
theorem Own.free {w : World} {g : Nat} {L : List Value} (h : Own w g L) (j : Nat) : w.frozen? ⟨g, j, none⟩ = false := unfrozen_of_block h j
theorem Own.set {w : World} {g : Nat} {L : List Value} (h : Own w g L) (j : Nat) (v : Value) : Own (w.setCell ⟨g, j, none⟩ v) g (L.set j v) := by
  have := block_setCell h (i := j) v
  unfold Own; rw [this]; simp
theorem Own.bs {w : World} {g : Nat} {l r : List UInt8} (h : Own w g (cellsOf (l ++ r))) : BS w (some ⟨g, 0, none⟩) l := by
  refine .inr ⟨_, _, rfl, fun j hj => ?_⟩
  rw [Nat.zero_add, h.cell, cellsOf_get _ j (by simp; omega)]
  simp [List.getD, List.getElem?_append_left hj]
theorem cellsOf_length (l : List UInt8) : (cellsOf l).length = l.length := by simp [cellsOf]
theorem cellsOf_append (l r : List UInt8) : cellsOf (l ++ r) = cellsOf l ++ cellsOf r := by simp [cellsOf]
theorem cellsOf_one (l : List UInt8) : ∀ v ∈ cellsOf l, v.oneCell' = true := by
  intro v hv; simp [cellsOf] at hv; obtain ⟨c, _, rfl⟩ := hv; rfl
theorem cellsOf_set (l : List UInt8) (j : Nat) (c : UInt8) : (cellsOf l).set j (.int .u8 (c.toNat : Int)) = cellsOf (l.set j c) := by
  simp [cellsOf, List.map_set]
theorem info5 : (Tryz.prog.info? 5).map (fun i => (i.zero, i.size, i.bytes)) = some (some (.int .u8 0), 1, 1) := by kernel_rfl
theorem size5 : (Tryz.prog.info? 5).map (·.size) = some 1 := by kernel_rfl
end Go.Proofs.YtplmmamebfpcjaaGreatDoor.Oc
end
section
/- append, its run handed to the operation. -/
namespace Go.Proofs.YtplmmamebfpcjaaGreatDoor
open Go.RowKit
open Go.Joins
theorem wpList_append_run {P : Program} {w : World} {ops : Array Oper} {rest : List Oper} {o : Oper} {a : Act} {Q : Exit → Act → World → Prop} (hgd : o.guard = none) (s x : Operand) (t tx : TypeId)
    (ho : o.op = .call { callee := .builtin .append, args := #[s, x], argTypes := #[t, tx] }) (v y : Value) (hs : a.eval s = v) (hx : a.eval x = y) (v' : Value) (w' : World)
    (hr : (Builtin.append_ #[t, tx] o.type #[v, y]).run P w = .ok v' w') (h : wpList P ops Q rest (a.put o.dst v') w') : wpList P ops Q (o :: rest) a w := by
  refine wpList_plain hgd fun K hK => ?_
  unfold Oper.wp execOp
  simp only [ho, resolve, invoke, builtin, Sem.run_bind, Sem.run_pure, Result.andThen_ok, List.map_toArray, List.map_cons, List.map_nil, hs, hx, hr]
  exact hK _ _ h
theorem cell_add (b off j : Nat) : (⟨b, off, none⟩ : Addr).add j = ⟨b, off + j, none⟩ := Go.WideShapes.add_plain b off j
end Go.Proofs.YtplmmamebfpcjaaGreatDoor
end
section
/- Appending bytes to bytes: what a run leaves. -/
namespace Go.Proofs.YtplmmamebfpcjaaGreatDoor.Oc
set_option maxRecDepth 100000
open Go.RowKit
open Go.Joins
/-- The value v owns the bytes l, in memory from block 'base' on. -/
def OwnS (w : World) (base : Nat) (v : Value) (l : List UInt8) : Prop := w.ownsRow base 5 1 v l.length (cellsOf l)
theorem OwnS.below {w w' : World} {base : Nat} {v : Value} {l : List UInt8} {B : Nat} (h : OwnS w base v l) (hb : Below B w w') (hB : w.heap.size ≤ B) : OwnS w' base v l := by
  refine ⟨h.1, ?_⟩
  rcases h.2 with h0 | ⟨g, cap, cur, hv, hg, hh, r⟩
  · exact .inl h0
  · refine .inr ⟨g, cap, cur, hv, hg, ?_, r⟩
    rw [hb.block g (Nat.lt_of_lt_of_le (Array.getElem?_eq_some_iff.1 hh).1 hB)]
    exact hh
theorem OwnS.form {w : World} {base : Nat} {v : Value} {l : List UInt8} (h : OwnS w base v l) (hl : 0 < l.length) :
    ∃ g cap, v = .slice (some ⟨g, 0, none⟩) l.length cap ∧ base ≤ g ∧ g < w.heap.size ∧ l.length ≤ cap ∧ cap ≤ 9223372036854775807 ∧ BS w (some ⟨g, 0, none⟩) l := by
  rcases h.2 with ⟨_, h0⟩ | ⟨g, cap, cur, hv, hg, hh, hn, hm, _, ht⟩
  · omega
  · refine ⟨g, cap, hv, hg, (Array.getElem?_eq_some_iff.1 hh).1, hn, by simpa [maxLen] using hm, .inr ⟨g, 0, rfl, fun j hj => ?_⟩⟩
    subst hv
    rw [Nat.zero_add, World.ownsRow.cellAt h j (by omega)]
    exact cellsOf_get l j hj
theorem BS.cells {w : World} {x : Addr} {l : List UInt8} (h : BS w (some x) l) : ∀ j u, (cellsOf l)[j]? = some u → w.cell? (x.add j) = some u := by
  intro j u hu
  rcases h with rfl | ⟨b, off, hx, hc⟩
  · simp [cellsOf] at hu
  · obtain rfl := Option.some.inj hx
    have hj : j < l.length := by
      rcases Nat.lt_or_ge j l.length with h | h
      · exact h
      · rw [List.getElem?_eq_none (by rw [cellsOf_length]; exact h)] at hu; cases hu
    rw [cellsOf_get l j hj] at hu
    rw [cell_add, hc j hj]; exact hu
/-- Onto what is owned: bytes. -/
theorem run_own_bytes (W : World) (base : Nat) (v : Value) (l r : List UInt8) (a : Option Addr) (cap : Nat) (hown : OwnS W base v l) (h : BS W a r) (hnil : a = none → cap = 0) (hb : base ≤ W.heap.size)
    (hsz : l.length + r.length ≤ 140737488355328) :
    ∃ v' w', (Builtin.append_ #[32, 32] 32 #[v, .slice a r.length cap]).run Tryz.prog W = .ok v' w' ∧ OwnS w' base v' (l ++ r) ∧ Below base W w' := by
  obtain ⟨i0, hi, hz0, hz1, hz2⟩ := info_parts info5
  cases a with
  | none =>
    have hr : r = [] := by
      rcases h with h | ⟨b, off, h, _⟩
      · exact h
      · cases h
    subst hr
    rw [hnil rfl]
    exact ⟨v, W, run_append_owned_none (P := Tryz.prog) W base 32 32 5 i0 1 Tryz.underlying32 hi v _ _ hown, by rw [List.append_nil]; exact hown, Below.refl _ _⟩
  | some x =>
    obtain ⟨v', w', h1, h2, h3, _⟩ := run_append_own (P := Tryz.prog) W base 32 32 5 i0 (.int .u8 0) 1 1 Tryz.underlying32 hi hz0 hz1 hz2 rfl (by decide) v l.length (cellsOf l) hown x r.length cap (cellsOf r) (by rw [cellsOf_length, Nat.mul_one]) h.cells (cellsOf_one r) (by unfold maxLen; omega) (by omega) hb
    refine ⟨v', w', h1, ?_, (Below.refl base W).grown h3 hb (fun k hk => (hown.lt k hk).1)⟩
    unfold OwnS
    rw [List.length_append, cellsOf_append]
    exact h2
/-- Onto what is owned: a text. -/
theorem run_own_text (W : World) (base : Nat) (v : Value) (l : List UInt8) (s : ByteArray) (hown : OwnS W base v l) (hb : base ≤ W.heap.size) (hsz : l.length + s.size ≤ 140737488355328) :
    ∃ v' w', (Builtin.append_ #[32, 9] 32 #[v, .string s]).run Tryz.prog W = .ok v' w' ∧ OwnS w' base v' (l ++ s.data.toList) ∧ Below base W w' := by
  obtain ⟨i0, hi, hz0, hz1, hz2⟩ := info_parts info5
  obtain ⟨v', w', h1, h2, h3, _⟩ := Lib.run_append_own_string (P := Tryz.prog) W base 32 9 32 5 i0 Tryz.underlying32 Tryz.underlying9 hi hz0 hz1 hz2 v l.length (cellsOf l) hown s (by unfold maxLen; omega) (by omega) hb
  refine ⟨v', w', h1, ?_, (Below.refl base W).grown h3 hb (fun k hk => (hown.lt k hk).1)⟩
  unfold OwnS
  rw [List.length_append, cellsOf_append, show s.data.toList.length = s.size from Array.length_toList]
  exact h2
/-- Onto a slice that has no room: a new row. -/
theorem run_full_bytes (W : World) (a : Option Addr) (l r : List UInt8) (x : Addr) (cap : Nat) (hl : BS W a l) (h : BS W (some x) r) (hr : 0 < r.length) (hsz : l.length + r.length ≤ 140737488355328) :
    ∃ v' w', (Builtin.append_ #[32, 32] 32 #[.slice a l.length l.length, .slice (some x) r.length cap]).run Tryz.prog W = .ok v' w' ∧ OwnS w' W.heap.size v' (l ++ r) ∧ Below W.heap.size W w' := by
  obtain ⟨i0, hi, hz0, hz1, hz2⟩ := info_parts info5
  cases a with
  | none =>
    have hl0 : l = [] := by
      rcases hl with h | ⟨b, off, h, _⟩
      · exact h
      · cases h
    subst hl0
    exact run_own_bytes W W.heap.size (.slice none 0 0) [] r (some x) cap (World.ownsRow_nil W _ 5 1) h (fun e => by cases e) (Nat.le_refl _) hsz
  | some b =>
    obtain ⟨v', w', h1, h2, h3⟩ := run_append_arg_grows (P := Tryz.prog) W 32 32 5 i0 (.int .u8 0) 1 1 Tryz.underlying32 hi hz0 hz1 hz2 rfl (by decide) b l.length l.length (cellsOf l) (by rw [cellsOf_length, Nat.mul_one]) hl.cells x r.length cap (cellsOf r) (by rw [cellsOf_length, Nat.mul_one]) h.cells (by omega) (by unfold maxLen; omega) (by omega)
    refine ⟨v', w', h1, ?_, (Below.refl _ W).grown h3 (Nat.le_refl _) (fun k hk => by cases hk)⟩
    unfold OwnS
    rw [List.length_append, cellsOf_append]
    exact h2
/-- A number's four bytes. -/
def be4 (n : Nat) : List UInt8 := [UInt8.ofNat (n / 16777216), UInt8.ofNat (n / 65536), UInt8.ofNat (n / 256), UInt8.ofNat n]
theorem be4_cells (n : Nat) (h : n < 4294967296) : (cellsOf (be4 n)).toArray = #[.int .u8 ((n : Int) / 16777216), .int .u8 ((n : Int) / 65536 % 256), .int .u8 ((n : Int) / 256 % 256), .int .u8 ((n : Int) % 256)] := by
  simp only [cellsOf, be4, List.map_cons, List.map_nil, UInt8.toNat_ofNat']
  have e0 : ((n / 16777216 % 2 ^ 8 : Nat) : Int) = (n : Int) / 16777216 := by omega
  have e1 : ((n / 65536 % 2 ^ 8 : Nat) : Int) = (n : Int) / 65536 % 256 := by omega
  have e2 : ((n / 256 % 2 ^ 8 : Nat) : Int) = (n : Int) / 256 % 256 := by omega
  have e3 : ((n % 2 ^ 8 : Nat) : Int) = (n : Int) % 256 := by omega
  rw [e0, e1, e2, e3]
end Go.Proofs.YtplmmamebfpcjaaGreatDoor.Oc
end
section
/- octet.Put, PutText, tesseraref1.Put, PutText: their contracts. -/
namespace Go.Proofs.YtplmmamebfpcjaaGreatDoor.Oc
set_option maxRecDepth 100000
open Go.RowKit
open Go.Joins
/-- What a call answers that lays bytes in new memory. -/
def NewBytes (w : World) (l : List UInt8) (e : Ending) (w' : World) : Prop := ∃ v, e = .returned v ∧ OwnS w' w.heap.size v l ∧ Below w.heap.size w w'
theorem be4_bs (w : World) (n : Nat) (h : n < 4294967296) : BS (w.alloc (.cells #[.int .u8 ((n : Int) / 16777216), .int .u8 ((n : Int) / 65536 % 256), .int .u8 ((n : Int) / 256 % 256), .int .u8 ((n : Int) % 256)] 5)) (some ⟨w.heap.size, 0, none⟩) (be4 n) := by
  rw [← be4_cells n h]; exact BS.new w (be4 n) 5
set_option maxHeartbeats 400000 in
theorem put_any (a : Option Addr) (cap : Nat) (l : List UInt8) (n : Nat) (hn : n < 4294967296) (w : World) (hlen : l.length ≤ 140737488351232) (hcap : l.length ≤ cap) (h : BS w a l) :
    Calls Tryz.prog 33 #[.slice a l.length cap, .int .u32 n] w (NewBytes w (l ++ be4 n)) := by
  have hbA := (Below.refl w.heap.size w).alloc (Nat.le_refl _) (.cells #[.int .u8 ((n : Int) / 16777216), .int .u8 ((n : Int) / 65536 % 256), .int .u8 ((n : Int) / 256 % 256), .int .u8 ((n : Int) % 256)] 5)
  obtain ⟨v', w', hr, ho, hb⟩ := run_full_bytes _ a l (be4 n) ⟨w.heap.size, 0, none⟩ 4 (h.below hbA) (be4_bs w n hn) (by simp [be4]) (by simp [be4]; omega)
  have hbB : Below w.heap.size w w' := hbA.trans (hb.mono (by simp))
  have ho' : OwnS w' w.heap.size v' (l ++ be4 n) := ownsRow_le ho (by simp)
  clear ho hbA hb h
  go_enter Tryz.func33, Tryz.ntmps33
  go_wp2_with (at_builtin; refine wpList_append_run rfl (.tmp 10) (.tmp 22) 32 32 rfl _ _ rfl rfl v' w' hr ?_)
  go_ret
  exact ⟨_, rfl, ho', hbB⟩
set_option maxHeartbeats 400000 in
theorem puttext_any (a : Option Addr) (cap : Nat) (l : List UInt8) (s : ByteArray) (w : World) (hlen : l.length + s.size ≤ 1073741824) (hcap : l.length ≤ cap) (h : BS w a l) :
    Calls Tryz.prog 32 #[.slice a l.length cap, .string s] w (NewBytes w (l ++ be4 s.size ++ s.data.toList)) := by
  have hput := put_any a cap l s.size (by omega) w (by omega) hcap h
  clear h
  go_enter Tryz.func32, Tryz.ntmps32
  go_wp2_with (first
    | (go_at_call 33; refine hput.mono ?_; rintro e w1 ⟨v1, rfl, ho1, hb1⟩; obtain ⟨v2, w2, hr2, ho2, hb2⟩ := run_own_text w1 w.heap.size v1 _ s ho1 hb1.size (by simp [be4]; omega))
    | (at_builtin; refine wpList_append_run rfl (.tmp 9) (.tmp 10) 32 9 rfl _ _ rfl rfl v2 w2 hr2 ?_))
  go_ret
  exact ⟨_, rfl, ho2, hb1.trans hb2⟩
end Go.Proofs.YtplmmamebfpcjaaGreatDoor.Oc
end
