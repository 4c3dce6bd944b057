import Derived.Test.YtjbdhakogbolkaaDoorProg
import Derived.Test.YtjbdhakogbolkaaDoorRows
import Derived.WalkKit
import Derived.ProofKit
import Derived.Below
import Derived.OpenShut
import Derived.WalkSpells
import Derived.WalkLawsBesides
import Derived.Deep.QuietTactic
import Derived.BigQuiet
import Derived.Laws.StructEq
import Derived.Lib.QuietBelow
section
/- Spans: what they are, and what is asked of them: the mathematics. -/
namespace Go.Proofs.YtjbdhakogbolkaaDoor
/-- A span. -/
structure Sp where
  lo : Int
  hi : Int
/-- Is it a scalar value? -/
def runeB (r : Int) : Bool := decide (0 ≤ r) && decide (r ≤ 1114111) && (decide (r < 55296) || decide (57343 < r))
theorem runeB_iff (r : Int) : runeB r = true ↔ 0 ≤ r ∧ r ≤ 1114111 ∧ (r < 55296 ∨ 57343 < r) := by
  simp [runeB, and_assoc]
/-- What two spans have in common. -/
def comL (x y : Sp) : Sp := if min x.hi y.hi < max x.lo y.lo then ⟨0, -1⟩ else ⟨max x.lo y.lo, min x.hi y.hi⟩
/-- The two spans of all runes. -/
def lowR : Sp := ⟨0, 55295⟩
def highR : Sp := ⟨57344, 1114111⟩
/-- Do two spans lie over each other? -/
def ovB (x y : Sp) : Bool := decide (max x.lo y.lo ≤ min x.hi y.hi)
/-- Why row i may not stand there: 0: it may. -/
def badAt (l : List Sp) (i : Nat) : Nat :=
  match l[i]? with
  | none => 0
  | some x => if runeB x.lo = false ∨ runeB x.hi = false then 14 else if x.hi < x.lo then 15 else
    match i with
    | 0 => 0
    | j + 1 => match l[j]? with
      | none => 0
      | some y => if x.lo ≤ y.hi then 15 else 0
def rightA (l : List Sp) : Nat × Nat :=
  match (List.range l.length).find? (fun i => decide (badAt l i ≠ 0)) with
  | some i => (i, badAt l i)
  | none => (0, 0)
def Rgt (l : List Sp) : Prop := ∀ j, j < l.length → badAt l j = 0
theorem rightA_some {l : List Sp} {k : Nat} (hk : k < l.length) (hb : ∀ j, j < k → badAt l j = 0) (h : badAt l k ≠ 0) : rightA l = (k, badAt l k) := by
  have : (List.range l.length).find? (fun i => decide (badAt l i ≠ 0)) = some k := by
    rw [List.find?_range_eq_some]
    refine ⟨by simpa using h, by simpa using hk, fun j hj => by simpa using hb j hj⟩
  unfold rightA
  rw [this]
theorem rightA_none {l : List Sp} (h : Rgt l) : rightA l = (0, 0) := by
  have : (List.range l.length).find? (fun i => decide (badAt l i ≠ 0)) = none := by
    rw [List.find?_range_eq_none]
    exact fun j hj => by simpa using h j hj
  unfold rightA
  rw [this]
theorem rightA_zero {l : List Sp} (h : (rightA l).2 = 0) : Rgt l := by
  intro j hj
  unfold rightA at h
  cases hf : (List.range l.length).find? (fun i => decide (badAt l i ≠ 0)) with
  | some i =>
    rw [hf] at h
    rw [List.find?_range_eq_some] at hf
    have := hf.1
    simp at this
    exact absurd h this
  | none =>
    rw [List.find?_range_eq_none] at hf
    simpa using hf j hj
theorem rightA_le (l : List Sp) : (rightA l).1 ≤ l.length ∧ (rightA l).2 ≤ 15 := by
  unfold rightA
  cases hf : (List.range l.length).find? (fun i => decide (badAt l i ≠ 0)) with
  | some i =>
    rw [List.find?_range_eq_some] at hf
    have := hf.2.1
    simp at this
    refine ⟨by simp; omega, ?_⟩
    simp only
    unfold badAt
    split
    · omega
    · split
      · omega
      · split
        · omega
        · split
          · omega
          · split
            · omega
            · split <;> omega
  | none => simp
/-- What a right row is. -/
theorem Rgt.row {l : List Sp} (h : Rgt l) {i : Nat} {x : Sp} (hx : l[i]? = some x) : runeB x.lo = true ∧ runeB x.hi = true ∧ x.lo ≤ x.hi := by
  have := h i (List.getElem?_eq_some_iff.1 hx).1
  unfold badAt at this
  rw [hx] at this
  simp only at this
  split at this
  · omega
  · rename_i h1
    split at this
    · omega
    · rename_i h2
      refine ⟨?_, ?_, by omega⟩
      · cases hb : runeB x.lo with
        | true => rfl
        | false => exact absurd (.inl hb) h1
      · cases hb : runeB x.hi with
        | true => rfl
        | false => exact absurd (.inr hb) h1
theorem Rgt.next {l : List Sp} (h : Rgt l) {i : Nat} {x y : Sp} (hx : l[i]? = some x) (hy : l[i + 1]? = some y) : x.hi < y.lo := by
  have := h (i + 1) (List.getElem?_eq_some_iff.1 hy).1
  unfold badAt at this
  rw [hy] at this
  simp only [hx] at this
  split at this
  · omega
  · split at this
    · omega
    · split at this <;> omega
theorem Rgt.rise {l : List Sp} (h : Rgt l) {i j : Nat} {x y : Sp} (hij : i < j) (hx : l[i]? = some x) (hy : l[j]? = some y) : x.hi < y.lo := by
  induction j generalizing y with
  | zero => omega
  | succ j ih =>
    by_cases e : i = j
    · subst e; exact h.next hx hy
    · have hj : j < l.length := by have := (List.getElem?_eq_some_iff.1 hy).1; omega
      have hz : l[j]? = some l[j] := List.getElem?_eq_getElem hj
      have h1 := ih (by omega) hz
      have h2 := h.next hz hy
      have h3 := (h.row hz).2.2
      omega
theorem Rgt.nil : Rgt [] := fun j hj => by simp at hj
/-- Does r lie in it? -/
def inB (l : List Sp) (r : Int) : Bool := runeB r && l.any fun x => decide (x.lo ≤ r) && decide (r ≤ x.hi)
/-- The first span of a that meets b. -/
def meets (b : List Sp) (x : Sp) : Bool := b.any (ovB x)
def meetA (a b : List Sp) : Nat × Bool :=
  match (List.range a.length).find? (fun i => (a[i]?).any (meets b)) with
  | some i => (i, true)
  | none => (0, false)
theorem meetA_some {a b : List Sp} {k : Nat} {x : Sp} (hx : a[k]? = some x) (hb : ∀ (j : Nat) (y : Sp), j < k → a[j]? = some y → meets b y = false) (h : meets b x = true) : meetA a b = (k, true) := by
  have : (List.range a.length).find? (fun i => (a[i]?).any (meets b)) = some k := by
    rw [List.find?_range_eq_some]
    refine ⟨by rw [hx]; exact h, by simpa using (List.getElem?_eq_some_iff.1 hx).1, fun j hj => ?_⟩
    have hj' : j < a.length := by have := (List.getElem?_eq_some_iff.1 hx).1; omega
    have hz : a[j]? = some a[j] := List.getElem?_eq_getElem hj'
    rw [hz]
    simpa using hb j _ hj hz
  unfold meetA
  rw [this]
theorem meetA_none {a b : List Sp} (hb : ∀ (j : Nat) (y : Sp), a[j]? = some y → meets b y = false) : meetA a b = (0, false) := by
  have : (List.range a.length).find? (fun i => (a[i]?).any (meets b)) = none := by
    rw [List.find?_range_eq_none]
    intro j hj
    have hz : a[j]? = some a[j] := List.getElem?_eq_getElem hj
    rw [hz]
    simpa using hb j _ hz
  unfold meetA
  rw [this]
theorem meetA_true {a b : List Sp} : (meetA a b).2 = true ↔ ∃ (i : Nat) (x : Sp), a[i]? = some x ∧ meets b x = true := by
  unfold meetA
  cases hf : (List.range a.length).find? (fun i => (a[i]?).any (meets b)) with
  | some i =>
    rw [List.find?_range_eq_some] at hf
    obtain ⟨h1, h2, _⟩ := hf
    simp at h2
    rw [List.getElem?_eq_getElem h2] at h1
    simp only [true_iff]
    exact ⟨i, _, List.getElem?_eq_getElem h2, h1⟩
  | none =>
    rw [List.find?_range_eq_none] at hf
    simp only [Bool.false_eq_true, false_iff]
    rintro ⟨i, x, hx, hm⟩
    have := hf i (List.getElem?_eq_some_iff.1 hx).1
    rw [hx] at this
    simp [hm] at this
theorem meets_true {b : List Sp} {x : Sp} : meets b x = true ↔ ∃ (j : Nat) (y : Sp), b[j]? = some y ∧ ovB x y = true := by
  unfold meets
  rw [List.any_eq_true]
  constructor
  · rintro ⟨y, hy, ho⟩
    obtain ⟨j, hj⟩ := List.getElem?_of_mem hy
    exact ⟨j, y, hj, ho⟩
  · rintro ⟨j, y, hj, ho⟩
    exact ⟨y, List.mem_of_getElem? hj, ho⟩
theorem meets_false {b : List Sp} {x : Sp} (h : ∀ (j : Nat) (y : Sp), b[j]? = some y → ovB x y = false) : meets b x = false := by
  cases hm : meets b x with
  | false => rfl
  | true =>
    obtain ⟨j, y, hj, ho⟩ := meets_true.1 hm
    rw [h j y hj] at ho
    cases ho
theorem ovB_comm (x y : Sp) : ovB x y = ovB y x := by unfold ovB; rw [Int.max_comm, Int.min_comm]
theorem meetA_comm (a b : List Sp) : (meetA a b).2 = (meetA b a).2 := by
  have h : ∀ a b : List Sp, (meetA a b).2 = true → (meetA b a).2 = true := by
    intro a b h
    obtain ⟨i, x, hx, hm⟩ := meetA_true.1 h
    obtain ⟨j, y, hy, ho⟩ := meets_true.1 hm
    exact meetA_true.2 ⟨j, y, hy, meets_true.2 ⟨i, x, hx, by rw [ovB_comm]; exact ho⟩⟩
  cases h1 : (meetA a b).2 with
  | true => rw [h a b h1]
  | false =>
    cases h2 : (meetA b a).2 with
    | false => rfl
    | true => rw [h b a h2] at h1; cases h1
/-- A rune of both: they meet. -/
theorem meet_of_in {a b : List Sp} {r : Int} (ha : inB a r = true) (hb : inB b r = true) : (meetA a b).2 = true := by
  unfold inB at ha hb
  simp only [Bool.and_eq_true, List.any_eq_true, decide_eq_true_eq] at ha hb
  obtain ⟨_, x, hx, h1, h2⟩ := ha
  obtain ⟨_, y, hy, h3, h4⟩ := hb
  obtain ⟨i, hi⟩ := List.getElem?_of_mem hx
  obtain ⟨j, hj⟩ := List.getElem?_of_mem hy
  refine meetA_true.2 ⟨i, x, hi, meets_true.2 ⟨j, y, hj, ?_⟩⟩
  unfold ovB
  simp only [decide_eq_true_eq]
  omega
end Go.Proofs.YtjbdhakogbolkaaDoor
end
section
/- Classes: what New asks, rule by rule; kinds: the mathematics. -/
namespace Go.Proofs.YtjbdhakogbolkaaDoor
/-- The list of the number k. -/
def pickL (A B C : List Sp) : Nat → List Sp
  | 1 => A
  | 2 => B
  | 3 => C
  | _ => []
/-- Too many spans? -/
def manyA (l : List Sp) : Nat × Nat := if 512 < l.length then (512, 4) else (0, 0)
/-- One list ahead more. -/
def ovS (X : List Sp) (f : Int) (Y : List Sp) : Int := if (meetA X Y).2 = true ∧ (f < 0 ∨ ((meetA X Y).1 : Int) < f) then ((meetA X Y).1 : Int) else f
/-- The first row of X that meets one of L; -1: there is none. -/
def ovI (X : List Sp) (L : List (List Sp)) : Int := L.foldl (ovS X) (-1)
def overA (X : List Sp) (L : List (List Sp)) : Nat × Nat := if ovI X L < 0 then (0, 0) else ((ovI X L).toNat, 16)
/-- The lists ahead of the number k. -/
def ahead (A B : List Sp) (k : Nat) : List (List Sp) := [[], A, B].take k
/-- The rule r at the list i: the row, and why. -/
def ruleA (A B C : List Sp) (r i : Nat) : Nat × Nat :=
  match r with
  | 0 => manyA (pickL A B C i)
  | 1 => rightA (pickL A B C i)
  | _ => overA (pickL A B C i) (ahead A B i)
def ent (A B C : List Sp) (q : Nat) : Nat × Nat := ruleA A B C (q / 3) (q % 3 + 1)
/-- The kind of a rune. -/
def kindOf (A B C : List Sp) (r : Int) : Nat := if inB A r then 1 else if inB B r then 2 else if inB C r then 3 else 4
/-- The last rule. -/
def blankB (A B C : List Sp) : Bool := !inB C 32 || inB A 39 || inB B 39 || inB C 39
/-- Why, which list, which row. -/
def checkA (A B C : List Sp) : Nat × Nat × Nat :=
  match (List.range 9).find? (fun q => decide ((ent A B C q).2 ≠ 0)) with
  | some q => ((ent A B C q).2, q % 3 + 1, (ent A B C q).1)
  | none => if blankB A B C then (20, 3, 0) else (0, 0, 0)
/-- All that is asked ahead of place q holds. -/
def Pass (A B C : List Sp) (q : Nat) : Prop := ∀ j, j < q → (ent A B C j).2 = 0
theorem Pass.zero (A B C : List Sp) : Pass A B C 0 := fun _ h => absurd h (Nat.not_lt_zero _)
theorem Pass.succ {A B C : List Sp} {q : Nat} (h : Pass A B C q) (h0 : (ent A B C q).2 = 0) : Pass A B C (q + 1) := fun j hj => by
  by_cases e : j = q
  · subst e; exact h0
  · exact h j (by omega)
theorem Pass.le {A B C : List Sp} {q p : Nat} (h : Pass A B C q) (hp : p ≤ q) : Pass A B C p := fun j hj => h j (by omega)
theorem check_bad {A B C : List Sp} {q : Nat} (hq : q < 9) (h : Pass A B C q) (h0 : (ent A B C q).2 ≠ 0) : checkA A B C = ((ent A B C q).2, q % 3 + 1, (ent A B C q).1) := by
  have : (List.range 9).find? (fun q => decide ((ent A B C q).2 ≠ 0)) = some q := by
    rw [List.find?_range_eq_some]
    exact ⟨by simpa using h0, by simpa using hq, fun j hj => by simpa using h j hj⟩
  unfold checkA
  rw [this]
theorem check_end {A B C : List Sp} (h : Pass A B C 9) : checkA A B C = if blankB A B C then (20, 3, 0) else (0, 0, 0) := by
  have : (List.range 9).find? (fun q => decide ((ent A B C q).2 ≠ 0)) = none := by
    rw [List.find?_range_eq_none]
    exact fun j hj => by simpa using h j hj
  unfold checkA
  rw [this]
theorem check_pass {A B C : List Sp} (h : (checkA A B C).1 = 0) : Pass A B C 9 ∧ blankB A B C = false := by
  cases hf : (List.range 9).find? (fun q => decide ((ent A B C q).2 ≠ 0)) with
  | some q =>
    unfold checkA at h
    rw [hf] at h
    rw [List.find?_range_eq_some] at hf
    have := hf.1
    simp at this
    exact absurd h this
  | none =>
    unfold checkA at h
    rw [hf] at h
    rw [List.find?_range_eq_none] at hf
    refine ⟨fun j hj => by simpa using hf j hj, ?_⟩
    cases hb : blankB A B C with
    | false => rfl
    | true => rw [hb] at h; simp at h
theorem check_zero {A B C : List Sp} (h : (checkA A B C).1 = 0) : checkA A B C = (0, 0, 0) := by
  obtain ⟨h1, h2⟩ := check_pass h
  rw [check_end h1, h2]
  rfl
theorem ent_many (A B C : List Sp) {q : Nat} (hq : q < 3) : ent A B C q = manyA (pickL A B C (q + 1)) := by
  unfold ent
  rw [show q / 3 = 0 by omega, show q % 3 = q by omega]; rfl
theorem ent_right (A B C : List Sp) {q : Nat} (hq : q < 3) : ent A B C (3 + q) = rightA (pickL A B C (q + 1)) := by
  unfold ent
  rw [show (3 + q) / 3 = 1 by omega, show (3 + q) % 3 = q by omega]; rfl
theorem ent_over (A B C : List Sp) {q : Nat} (hq : q < 3) : ent A B C (6 + q) = overA (pickL A B C (q + 1)) (ahead A B (q + 1)) := by
  unfold ent
  rw [show (6 + q) / 3 = 2 by omega, show (6 + q) % 3 = q by omega]; rfl
theorem ent_rule (A B C : List Sp) {r i : Nat} (hi : 1 ≤ i) (hi3 : i ≤ 3) : ent A B C (3 * r + (i - 1)) = ruleA A B C r i := by
  unfold ent
  rw [show (3 * r + (i - 1)) / 3 = r by omega, show (3 * r + (i - 1)) % 3 + 1 = i by omega]
theorem manyA_zero {l : List Sp} (h : (manyA l).2 = 0) : l.length ≤ 512 := by
  unfold manyA at h
  split at h
  · simp at h
  · omega
theorem Pass.len {A B C : List Sp} {q : Nat} (h : Pass A B C q) (hq : 3 ≤ q) : A.length ≤ 512 ∧ B.length ≤ 512 ∧ C.length ≤ 512 := by
  have h0 := h 0 (by omega)
  have h1 := h 1 (by omega)
  have h2 := h 2 (by omega)
  rw [ent_many _ _ _ (by omega)] at h0 h1 h2
  exact ⟨manyA_zero h0, manyA_zero h1, manyA_zero h2⟩
theorem Pass.rgt {A B C : List Sp} {q : Nat} (h : Pass A B C q) (hq : 6 ≤ q) : Rgt A ∧ Rgt B ∧ Rgt C := by
  have h0 := h (3 + 0) (by omega)
  have h1 := h (3 + 1) (by omega)
  have h2 := h (3 + 2) (by omega)
  rw [ent_right _ _ _ (by omega)] at h0 h1 h2
  exact ⟨rightA_zero h0, rightA_zero h1, rightA_zero h2⟩
theorem ovS_neg {X Y : List Sp} {f : Int} : ovS X f Y < 0 ↔ f < 0 ∧ (meetA X Y).2 = false := by
  unfold ovS
  cases hm : (meetA X Y).2 with
  | false => simp
  | true =>
    split
    · constructor
      · intro h; omega
      · rintro ⟨_, h⟩; cases h
    · rename_i h
      constructor
      · intro h'; exact absurd ⟨rfl, .inl h'⟩ h
      · rintro ⟨_, h'⟩; cases h'
theorem ovF_neg {X : List Sp} (L : List (List Sp)) (f : Int) : L.foldl (ovS X) f < 0 ↔ f < 0 ∧ ∀ Y, Y ∈ L → (meetA X Y).2 = false := by
  induction L generalizing f with
  | nil => simp
  | cons Z L ih =>
    rw [List.foldl_cons, ih, ovS_neg]
    simp [and_assoc]
theorem ovI_neg {X : List Sp} {L : List (List Sp)} : ovI X L < 0 ↔ ∀ Y, Y ∈ L → (meetA X Y).2 = false := by
  unfold ovI
  rw [ovF_neg]
  simp
theorem ovI_take {X : List Sp} {L : List (List Sp)} {j : Nat} {Y : List Sp} (h : L[j]? = some Y) : ovI X (L.take (j + 1)) = ovS X (ovI X (L.take j)) Y := by
  unfold ovI
  rw [List.take_add_one, h, List.foldl_append]
  rfl
theorem meetA_nil (X : List Sp) : meetA X [] = (0, false) := meetA_none fun _ _ _ => by simp [meets]
theorem ovS_nil (X : List Sp) (f : Int) : ovS X f [] = f := by
  unfold ovS
  rw [meetA_nil]
  simp
theorem ovI_nil (X : List Sp) (L : List (List Sp)) : ovI X ([] :: L) = ovI X L := by
  unfold ovI
  rw [List.foldl_cons, ovS_nil]
theorem Pass.apart {A B C : List Sp} (h : Pass A B C 9) : (meetA B A).2 = false ∧ (meetA C A).2 = false ∧ (meetA C B).2 = false := by
  have h1 := h (6 + 1) (by omega)
  have h2 := h (6 + 2) (by omega)
  rw [ent_over _ _ _ (by omega)] at h1 h2
  have ho : ∀ X L, (overA X L).2 = 0 → ∀ Y, Y ∈ L → (meetA X Y).2 = false := by
    intro X L h
    unfold overA at h
    split at h
    · rename_i hn
      exact ovI_neg.1 hn
    · simp at h
  exact ⟨ho _ _ h1 A (by simp [ahead]), ho _ _ h2 A (by simp [ahead]), ho _ _ h2 B (by simp [ahead])⟩
theorem not_in {a b : List Sp} {r : Int} (h : (meetA a b).2 = false) (ha : inB a r = true) : inB b r = false := by
  cases hb : inB b r with
  | false => rfl
  | true => rw [meet_of_in ha hb] at h; cases h
theorem blank_of {A B C : List Sp} (h : Pass A B C 9) : (decide (kindOf A B C 32 ≠ 3) || decide (kindOf A B C 39 ≠ 4)) = blankB A B C := by
  obtain ⟨h1, h2, h3⟩ := h.apart
  unfold kindOf blankB
  cases hc : inB C 32 with
  | true =>
    rw [not_in h2 hc, not_in h3 hc]
    cases inB A 39 <;> cases inB B 39 <;> cases inB C 39 <;> simp
  | false =>
    cases inB A 32 <;> cases inB B 32 <;> simp
theorem kindOf_range (A B C : List Sp) (r : Int) : 1 ≤ kindOf A B C r ∧ kindOf A B C r ≤ 4 := by
  unfold kindOf
  split
  · omega
  · split
    · omega
    · split <;> omega
theorem check_row {A B C : List Sp} : (checkA A B C).1 ≤ 20 ∧ (checkA A B C).2.1 ≤ 3 := by
  unfold checkA
  split
  · rename_i q hf
    rw [List.find?_range_eq_some] at hf
    refine ⟨?_, by simp only; omega⟩
    simp only
    unfold ent ruleA
    split
    · unfold manyA; split <;> simp
    · have := (rightA_le (pickL A B C (q % 3 + 1))).2; omega
    · unfold overA; split <;> simp
  · split <;> simp
end Go.Proofs.YtjbdhakogbolkaaDoor
end
section
/- Models: what they are, and which are right: the mathematics. -/
namespace Go.Proofs.YtjbdhakogbolkaaDoor
/-- A merge. -/
structure Mg where
  l : Int
  r : Int
  i : Int
/-- The text of one byte. -/
def byteS (id : Int) : ByteArray := ⟨#[UInt8.ofNat id.toNat]⟩
/-- An id's word. -/
def wordM (ws : List ByteArray) (id : Int) : Option ByteArray :=
  if 0 ≤ id ∧ id < 256 then some (byteS id) else if 256 ≤ id then ws[(id - 256).toNat]? else none
/-- Is an id a byte's, or that of one of the first n merges? -/
def madeM (ms : List Mg) (n : Nat) (id : Int) : Bool := (decide (0 ≤ id) && decide (id < 256)) || (decide (256 ≤ id) && (ms.take n).any fun x => x.i == id)
/-- The words of two ids, one behind the other. -/
def joinM (ws : List ByteArray) (l r : Int) : ByteArray := (wordM ws l).getD ⟨#[]⟩ ++ (wordM ws r).getD ⟨#[]⟩
def badW (ws : List ByteArray) (i : Nat) : Nat :=
  match ws[i]? with
  | none => 0
  | some w => if w.size < 2 ∨ 256 < w.size then 21 else if (ws.take i).any (fun v => decide (v = w)) = true then 22 else 0
def cutM (ws : List ByteArray) (ms : List Mg) (i : Nat) : Nat :=
  match ms[i]? with
  | none => 0
  | some x => if x.i < 256 ∨ (ws.length : Int) ≤ x.i - 256 ∨ madeM ms i x.i = true then 24 else if madeM ms i x.l = false ∨ madeM ms i x.r = false then 23 else if wordM ws x.i ≠ some (joinM ws x.l x.r) then 25 else 0
def pairB (x : Mg) (l r : Int) : Bool := x.l == l && x.r == r
def badM (ws : List ByteArray) (ms : List Mg) (i : Nat) : Nat :=
  if cutM ws ms i ≠ 0 then cutM ws ms i else
  match ms[i]? with
  | none => 0
  | some x => if (ms.take i).any (fun y => pairB y x.l x.r) = true then 22 else 0
/-- The first of n that f refuses. -/
def firstBad (f : Nat → Nat) (n : Nat) : Nat × Nat :=
  match (List.range n).find? (fun i => decide (f i ≠ 0)) with
  | some i => (f i, i)
  | none => (0, 0)
theorem firstBad_some {f : Nat → Nat} {n k : Nat} (hk : k < n) (hb : ∀ j, j < k → f j = 0) (h : f k ≠ 0) : firstBad f n = (f k, k) := by
  have : (List.range n).find? (fun i => decide (f i ≠ 0)) = some k := by
    rw [List.find?_range_eq_some]
    refine ⟨by simpa using h, by simpa using hk, fun j hj => by simpa using hb j hj⟩
  unfold firstBad
  rw [this]
theorem firstBad_none {f : Nat → Nat} {n : Nat} (h : ∀ j, j < n → f j = 0) : firstBad f n = (0, 0) := by
  have : (List.range n).find? (fun i => decide (f i ≠ 0)) = none := by
    rw [List.find?_range_eq_none]
    intro i hi
    simpa using h i hi
  unfold firstBad
  rw [this]
theorem firstBad_cases (f : Nat → Nat) (n : Nat) : (∀ j, j < n → f j = 0) ∧ firstBad f n = (0, 0) ∨ ∃ k, k < n ∧ (∀ j, j < k → f j = 0) ∧ f k ≠ 0 ∧ firstBad f n = (f k, k) := by
  cases h : (List.range n).find? (fun i => decide (f i ≠ 0)) with
  | none =>
    left
    have h' := List.find?_range_eq_none.1 h
    have h2 : ∀ j, j < n → f j = 0 := fun j hj => by simpa using h' j hj
    exact ⟨h2, firstBad_none h2⟩
  | some k =>
    right
    obtain ⟨h1, h2, h3⟩ := List.find?_range_eq_some.1 h
    have hk : k < n := by simpa using h2
    have hb : ∀ j, j < k → f j = 0 := fun j hj => by simpa using h3 j hj
    have hn : f k ≠ 0 := by simpa using h1
    exact ⟨k, hk, hb, hn, firstBad_some hk hb hn⟩
theorem firstBad_zero {f : Nat → Nat} {n : Nat} (h : (firstBad f n).1 = 0) : ∀ j, j < n → f j = 0 := by
  rcases firstBad_cases f n with ⟨h1, _⟩ | ⟨k, _, _, h3, h4⟩
  · exact h1
  · rw [h4] at h; exact absurd h h3
theorem firstBad_congr {f g : Nat → Nat} {n : Nat} (h : ∀ i, i < n → (∀ j, j < i → f j = 0) → f i = g i) : firstBad f n = firstBad g n := by
  have hz : ∀ i, i ≤ n → (∀ j, j < i → f j = 0) → ∀ j, j < i → g j = 0 := fun i hi hf j hj => by
    rw [← h j (by omega) (fun k hk => hf k (by omega))]; exact hf j hj
  rcases firstBad_cases f n with ⟨h1, h2⟩ | ⟨k, h1, h2, h3, h4⟩
  · rw [h2, firstBad_none (hz n (Nat.le_refl _) h1)]
  · have e := h k h1 h2
    rw [h4, firstBad_some h1 (hz k (by omega) h2) (by rw [← e]; exact h3), e]
/-- P5.1. -/
def checkD (ws : List ByteArray) (ms : List Mg) (A B C : List Sp) : Nat × Nat × Nat :=
  if 4096 < ms.length then (4, 5, 4096)
  else if ws.length ≠ ms.length then (4, 4, min ws.length ms.length)
  else if (checkA A B C).1 ≠ 0 then checkA A B C
  else if (firstBad (badW ws) ws.length).1 ≠ 0 then ((firstBad (badW ws) ws.length).1, 4, (firstBad (badW ws) ws.length).2)
  else if (firstBad (badM ws ms) ms.length).1 ≠ 0 then ((firstBad (badM ws ms) ms.length).1, 5, (firstBad (badM ws ms) ms.length).2)
  else (0, 0, 0)
/-- Words that are right: each is. -/
def WRgt (ws : List ByteArray) : Prop := ∀ j, j < ws.length → badW ws j = 0
theorem WRgt.size {ws : List ByteArray} (h : WRgt ws) {j : Nat} {w : ByteArray} (hj : ws[j]? = some w) : 2 ≤ w.size ∧ w.size ≤ 256 := by
  have := h j (List.getElem?_eq_some_iff.1 hj).1
  unfold badW at this
  rw [hj] at this
  simp only at this
  by_cases hc : w.size < 2 ∨ 256 < w.size
  · rw [if_pos hc] at this; cases this
  · omega
theorem WRgt.inj {ws : List ByteArray} (h : WRgt ws) {i j : Nat} {w : ByteArray} (hi : ws[i]? = some w) (hj : ws[j]? = some w) : i = j := by
  have key : ∀ i j, i < j → ws[i]? = some w → ws[j]? = some w → False := fun i j hij hi hj => by
    have := h j (List.getElem?_eq_some_iff.1 hj).1
    unfold badW at this
    rw [hj] at this
    simp only at this
    split at this
    · cases this
    · rw [if_pos] at this
      · cases this
      · rw [List.any_eq_true]
        refine ⟨w, ?_, by simp⟩
        rw [List.mem_iff_getElem?]
        exact ⟨i, by rw [List.getElem?_take_of_lt hij]; exact hi⟩
  rcases Nat.lt_trichotomy i j with h1 | h1 | h1
  · exact (key i j h1 hi hj).elim
  · exact h1
  · exact (key j i h1 hj hi).elim
theorem cutM_zero {ws : List ByteArray} {ms : List Mg} {i : Nat} {x : Mg} (hx : ms[i]? = some x) (h : cutM ws ms i = 0) :
    256 ≤ x.i ∧ x.i - 256 < ws.length ∧ madeM ms i x.i = false ∧ madeM ms i x.l = true ∧ madeM ms i x.r = true ∧ wordM ws x.i = some (joinM ws x.l x.r) := by
  unfold cutM at h
  rw [hx] at h
  simp only at h
  by_cases h1 : x.i < 256 ∨ (ws.length : Int) ≤ x.i - 256 ∨ madeM ms i x.i = true
  · rw [if_pos h1] at h; cases h
  · rw [if_neg h1] at h
    by_cases h2 : madeM ms i x.l = false ∨ madeM ms i x.r = false
    · rw [if_pos h2] at h; cases h
    · rw [if_neg h2] at h
      by_cases h3 : wordM ws x.i ≠ some (joinM ws x.l x.r)
      · rw [if_pos h3] at h; cases h
      · refine ⟨by omega, by omega, by simpa using fun e => h1 (.inr (.inr e)), by simpa using fun e => h2 (.inl e), by simpa using fun e => h2 (.inr e), by simpa using h3⟩
theorem wordM_in {ws : List ByteArray} {id : Int} (h : 256 ≤ id) : wordM ws id = ws[(id - 256).toNat]? := by
  unfold wordM
  rw [if_neg (by omega), if_pos h]
theorem made_ahead {ms : List Mg} {i j : Nat} {x : Mg} (hx : ms[j]? = some x) (hj : j < i) (h : 256 ≤ x.i) : madeM ms i x.i = true := by
  unfold madeM
  rw [Bool.or_eq_true, Bool.and_eq_true, Bool.and_eq_true]
  refine .inr ⟨by simpa using h, ?_⟩
  rw [List.any_eq_true]
  refine ⟨x, ?_, by simp⟩
  rw [List.mem_iff_getElem?]
  exact ⟨j, by rw [List.getElem?_take_of_lt hj]; exact hx⟩
/-- A pair that stands twice is refused for another fault. -/
theorem badM_cut {ws : List ByteArray} {ms : List Mg} {i : Nat} (hW : WRgt ws) (hc : ∀ j, j < i → cutM ws ms j = 0) : cutM ws ms i = badM ws ms i := by
  unfold badM
  by_cases h0 : cutM ws ms i ≠ 0
  · rw [if_pos h0]
  · rw [if_neg h0]
    have h0 : cutM ws ms i = 0 := by simpa using h0
    cases hx : ms[i]? with
    | none => simpa using h0
    | some x =>
      simp only
      rw [if_neg, h0]
      intro ha
      obtain ⟨y, hy, hp⟩ := List.any_eq_true.1 ha
      obtain ⟨j, hj⟩ := List.mem_iff_getElem?.1 hy
      have hji : j < i := by
        have := (List.getElem?_eq_some_iff.1 hj).1
        simp at this; omega
      rw [List.getElem?_take_of_lt hji] at hj
      obtain ⟨a1, a2, a3, -, -, a6⟩ := cutM_zero hx h0
      obtain ⟨b1, b2, -, -, -, b6⟩ := cutM_zero hj (hc j hji)
      unfold pairB at hp
      have e1 : y.l = x.l ∧ y.r = x.r := by simpa using hp
      rw [e1.1, e1.2, ← a6, wordM_in a1, wordM_in b1] at b6
      have hlt : (x.i - 256).toNat < ws.length := by omega
      have e2 := hW.inj (List.getElem?_eq_getElem hlt) (b6.trans (List.getElem?_eq_getElem hlt))
      have e3 : x.i = y.i := by omega
      rw [e3, made_ahead hj hji b1] at a3
      cases a3
theorem first_cut {ws : List ByteArray} {ms : List Mg} (hW : WRgt ws) (n : Nat) : firstBad (cutM ws ms) n = firstBad (badM ws ms) n :=
  firstBad_congr fun _ _ hb => badM_cut hW hb
/-- The rank of a pair. -/
def rankM (ms : List Mg) (l r : Int) : Option Nat := ms.findIdx? fun x => pairB x l r
/-- The greatest number of bytes. -/
def longM (ws : List ByteArray) : Nat := ws.foldl (fun n w => if n < w.size then w.size else n) 1
theorem longM_snoc (ws : List ByteArray) (w : ByteArray) : longM (ws ++ [w]) = if longM ws < w.size then w.size else longM ws := by
  unfold longM
  rw [List.foldl_append]
  rfl
theorem longM_step (ws : List ByteArray) (k : Nat) (w : ByteArray) (h : ws[k]? = some w) : longM (ws.take (k + 1)) = if longM (ws.take k) < w.size then w.size else longM (ws.take k) := by
  rw [← longM_snoc]
  congr 1
  rw [List.take_add_one, h]
  rfl
theorem rankM_step (ms : List Mg) (k : Nat) (x : Mg) (h : ms[k]? = some x) (l r : Int) : rankM (ms.take (k + 1)) l r = match rankM (ms.take k) l r with | some i => some i | none => if pairB x l r then some k else none := by
  have e : ms.take (k + 1) = ms.take k ++ [x] := by rw [List.take_add_one, h]; rfl
  have hk : k < ms.length := (List.getElem?_eq_some_iff.1 h).1
  unfold rankM
  rw [e, List.findIdx?_append]
  cases h1 : (ms.take k).findIdx? (fun x => pairB x l r) with
  | some i => simp
  | none =>
    simp only [Option.none_or, List.findIdx?_cons, List.findIdx?_nil]
    have hl : (ms.take k).length = k := by simp; omega
    rw [hl]
    cases hp : pairB x l r <;> simp
end Go.Proofs.YtjbdhakogbolkaaDoor
end
section
/- Lists of spans in memory; the two package-level variables. -/
namespace Go.Proofs.YtjbdhakogbolkaaDoor
open Go.RowKit
/-- Its value. -/
def spv (x : Sp) : Value := .agg #[.int .i32 x.lo, .int .i32 x.hi]
/-- A span's two cells. -/
def SpAt (w : World) (b off : Nat) (x : Sp) : Prop := w.cell? ⟨b, off, none⟩ = some (.int .i32 x.lo) ∧ w.cell? ⟨b, off + 1, none⟩ = some (.int .i32 x.hi)
theorem SpAt.below {w w' : World} {b off : Nat} {x : Sp} (h : SpAt w b off x) (hb : Below w.heap.size w w') : SpAt w' b off x :=
  ⟨(hb.cell (World.block_lt_of_cell? w _ h.1)).trans h.1, (hb.cell (World.block_lt_of_cell? w _ h.2)).trans h.2⟩
/-- The slice that begins at a holds the spans l. -/
def SPS (w : World) (a : Option Addr) (l : List Sp) : Prop :=
  l = [] ∨ ∃ b off, a = some ⟨b, off, none⟩ ∧ ∀ i x, l[i]? = some x → SpAt w b (off + i * 2) x
theorem SPS.below {w w' : World} {a : Option Addr} {l : List Sp} (h : SPS w a l) (hb : Below w.heap.size w w') : SPS w' a l := by
  rcases h with h | ⟨b, off, rfl, hc⟩
  · exact .inl h
  · exact .inr ⟨b, off, rfl, fun i x hx => (hc i x hx).below hb⟩
theorem SPS.take {w : World} {a : Option Addr} {l : List Sp} (h : SPS w a l) (n : Nat) : SPS w a (l.take n) := by
  rcases h with rfl | ⟨b, off, rfl, hc⟩
  · exact .inl (by simp)
  · refine .inr ⟨b, off, rfl, fun i x hx => hc i x ?_⟩
    rw [List.getElem?_take] at hx
    split at hx
    · exact hx
    · cases hx
/-- What the package-level variables hold: block 0: nothing; block 1: runes. -/
def GL (w : World) : Prop := SpAt w 0 0 ⟨0, -1⟩ ∧ SpAt w 1 0 lowR ∧ SpAt w 1 2 highR
theorem GL.below {w w' : World} (h : GL w) (hb : Below w.heap.size w w') : GL w' := ⟨h.1.below hb, h.2.1.below hb, h.2.2.below hb⟩
theorem cell_alloc_s {w : World} {a : Addr} {v : Value} (h : w.cell? a = some v) (o : Obj) : (w.alloc o).cell? a = some v :=
  (((Below.refl w.heap.size w).alloc (Nat.le_refl _) o).cell (World.block_lt_of_cell? w _ h)).trans h
/-- Their cells, one by one; there are two blocks at the least. -/
theorem GL.cells {w : World} (h : GL w) : w.cell? ⟨0, 0, none⟩ = some (.int .i32 0) ∧ w.cell? ⟨0, 1, none⟩ = some (.int .i32 (-1)) ∧ w.cell? ⟨1, 0, none⟩ = some (.int .i32 0) ∧ w.cell? ⟨1, 1, none⟩ = some (.int .i32 55295) ∧
    w.cell? ⟨1, 2, none⟩ = some (.int .i32 57344) ∧ w.cell? ⟨1, 3, none⟩ = some (.int .i32 1114111) ∧ w.heap.size ≠ 0 ∧ w.heap.size ≠ 1 := by
  have := World.block_lt_of_cell? w _ h.2.1.1
  have h9 := World.block_lt_of_cell? w _ h.1.1
  simp only at this h9
  exact ⟨h.1.1, h.1.2, h.2.1.1, h.2.1.2, h.2.2.1, h.2.2.2, by omega, by omega⟩
end Go.Proofs.YtjbdhakogbolkaaDoor
end
section
/- Two spans held against each other. -/
namespace Go.Proofs.YtjbdhakogbolkaaDoor
open Go.RowKit
def fLo : Field := Field.mk "Lo" 21 0 false "" "" 0
def fHi : Field := Field.mk "Hi" 21 1 false "" "" 4
theorem fields26 : Tryd.prog.fieldsOf 27 = #[fLo, fHi] := by kernel_rfl
theorem und26 : Tryd.prog.underlying 27 = some (.struct #[fLo, fHi]) := by kernel_rfl
theorem held26 : Tryd.prog.stoodInHeld 27 = false := by kernel_rfl
def spEq (x y : Sp) : Bool := x.lo == y.lo && x.hi == y.hi
theorem equal_sp (a b c d : Int) (W : World) : (Op.equalIn 10000 27 (.agg #[.int .i32 a, .int .i32 b]) (.agg #[.int .i32 c, .int .i32 d])).run Tryd.prog W = .ok (a == c && b == d) W := by
  rw [run_equalIn_agg W 9999 27 _ _ (by rw [fields26]; exact und26) held26, fields26]
  simp [go_sem, Op.eqFields, fLo, fHi, part]
  by_cases h1 : a = c
  · by_cases h2 : b = d
    · simp [h1, h2]
    · simp [h1, h2]
  · simp [h1]
theorem eql_sp (x y : Sp) (v : Bool) (h : spEq x y = v) (W : World) : (binOp BinOp.eql 27 (.agg #[.int .i32 x.lo, .int .i32 x.hi]) (.agg #[.int .i32 y.lo, .int .i32 y.hi])).run Tryd.prog W = .ok (.bool v) W := by
  rw [run_eql_struct, equal_sp, ← h]
  rfl
theorem neq_sp (x y : Sp) (v : Bool) (h : (!spEq x y) = v) (W : World) : (binOp BinOp.neq 27 (.agg #[.int .i32 x.lo, .int .i32 x.hi]) (.agg #[.int .i32 y.lo, .int .i32 y.hi])).run Tryd.prog W = .ok (.bool v) W := by
  rw [run_neq_struct, equal_sp, ← h]
  rfl
theorem eqIn_sp (x y : Sp) (v : Bool) (h : spEq x y = v) (W : World) : (Op.equalIn 10000 27 (.agg #[.int .i32 x.lo, .int .i32 x.hi]) (.agg #[.int .i32 y.lo, .int .i32 y.hi])).run Tryd.prog W = .ok v W := by
  rw [equal_sp, ← h]
  rfl
/-- The guard of a comparison of structs: nothing to panic over. -/
theorem guard26 : Tryd.prog.eqGuardType Tryd.prog.depth 27 = false := by kernel_rfl
theorem spEq_self (x : Sp) : spEq x x = true := by simp [spEq]
/-- A rune and a part of all runes. -/
theorem com_one (r : Int) (p : Sp) : spEq (comL ⟨r, r⟩ p) ⟨r, r⟩ = (decide (p.lo ≤ r) && decide (r ≤ p.hi)) := by
  unfold spEq comL
  by_cases h1 : p.lo ≤ r
  · by_cases h2 : r ≤ p.hi
    · have e1 : max r p.lo = r := by omega
      have e2 : min r p.hi = r := by omega
      rw [if_neg (by simp only; omega)]
      simp [e1, e2, h1, h2]
    · rw [if_pos (by simp only; omega)]
      simp [h2]
      omega
  · rw [if_pos (by simp only; omega)]
    simp [h1]
    omega
end Go.Proofs.YtjbdhakogbolkaaDoor
end
section
/- spans.common, spans.isRune: their contracts. -/
namespace Go.Proofs.YtjbdhakogbolkaaDoor
open Go.RowKit Go.Sort
set_option maxHeartbeats 1000000 in
theorem common_any (x y : Sp) (w : World) (hG : GL w) : Calls Tryd.prog 99 #[spv x, spv y] w fun e w' => e = .returned (spv (comL x y)) ∧ Below w.heap.size w w' := by
  obtain ⟨g0, g1, -⟩ := hG.cells
  clear hG
  have hA0 := cell_alloc_s g0
  have hA1 := cell_alloc_s g1
  have hA2 := fun o => cell_alloc_s (hA0 o)
  have hA3 := fun o => cell_alloc_s (hA1 o)
  have hm : max x.lo y.lo = (if x.lo < y.lo then y.lo else x.lo) := by split <;> omega
  have hn : min x.hi y.hi = (if y.hi < x.hi then y.hi else x.hi) := by split <;> omega
  unfold comL
  rw [hm, hn]
  obtain ⟨m, hM⟩ : ∃ m, (if x.lo < y.lo then y.lo else x.lo) = m := ⟨_, rfl⟩
  obtain ⟨n, hN⟩ : ∃ n, (if y.hi < x.hi then y.hi else x.hi) = n := ⟨_, rfl⟩
  rw [hM, hN]
  clear hm hn g0 g1
  have hb : ∀ a b c d : Obj, Below w.heap.size w ((((w.alloc a).alloc b).alloc c).alloc d) := fun a b c d => ((((Below.refl _ w).alloc (Nat.le_refl _) a).alloc (by simp) b).alloc (by simp; omega) c).alloc (by simp; omega) d
  unfold spv
  by_cases hlt : n < m
  · rw [if_pos hlt]
    go_enter Tryd.func99, Tryd.ntmps99
    go_wp2_with fail
    exact bodyPost_ret (v := spv ⟨0, -1⟩) (by simp [results, Tryd.results99, go_sem, spv]) rfl ⟨rfl, hb _ _ _ _⟩
  · rw [if_neg hlt]
    go_enter Tryd.func99, Tryd.ntmps99
    go_wp2_with fail
    exact bodyPost_ret (v := spv ⟨m, n⟩) (by simp [results, Tryd.results99, go_sem, spv]) rfl ⟨rfl, hb _ _ _ _⟩
/-- The array of all runes, its two spans. -/
theorem part0 (W : World) : (Instr.index 168 (.agg #[.int .i32 0, .int .i32 55295, .int .i32 57344, .int .i32 1114111]) (.int .i64 0)).run Tryd.prog W = .ok (.agg #[.int .i32 0, .int .i32 55295]) W := by kernel_rfl
theorem part1 (W : World) : (Instr.index 168 (.agg #[.int .i32 0, .int .i32 55295, .int .i32 57344, .int .i32 1114111]) (.int .i64 1)).run Tryd.prog W = .ok (.agg #[.int .i32 57344, .int .i32 1114111]) W := by kernel_rfl
set_option maxHeartbeats 1000000 in
theorem isRune_any (r : Int) (w : World) (hG : GL w) : Calls Tryd.prog 98 #[.int .i32 r] w fun e w' => e = .returned (.bool (runeB r)) ∧ Below w.heap.size w w' := by
  have hG0 := hG.below ((Below.refl w.heap.size w).alloc (Nat.le_refl _) (.cells #[.int .i32 r, .int .i32 r] 27))
  have hr : runeB r = true ↔ (0 ≤ r ∧ r ≤ 55295) ∨ (57344 ≤ r ∧ r ≤ 1114111) := by rw [runeB_iff]; omega
  obtain ⟨B, hB⟩ : ∃ B, runeB r = B := ⟨_, rfl⟩
  rw [hB] at hr ⊢
  clear hB
  have hp0 := part0
  have hp1 := part1
  obtain ⟨-, -, g2, g3, g4, g5, -⟩ := hG.cells
  have g2 := cell_alloc_s g2
  have g3 := cell_alloc_s g3
  have g4 := cell_alloc_s g4
  have g5 := cell_alloc_s g5
  clear hG
  go_enter Tryd.func98, Tryd.ntmps98
  have hb0 : Below w.heap.size w (w.alloc (.cells #[.int .i32 r, .int .i32 r] 27)) := (Below.refl _ _).alloc (Nat.le_refl _) _
  have hs0 : w.heap.size < (w.alloc (.cells #[.int .i32 r, .int .i32 r] 27)).heap.size := by simp
  have ho0 : SpAt (w.alloc (.cells #[.int .i32 r, .int .i32 r] 27)) w.heap.size 0 ⟨r, r⟩ := ⟨by simp [go_sem], by simp [go_sem]⟩
  go_wp2_with fail
  clear g2 g3 g4 g5
  obtain ⟨W0, hW0⟩ : ∃ W0, W0 = w.alloc (.cells #[.int .i32 r, .int .i32 r] 27) := ⟨_, rfl⟩
  rw [← hW0] at hG0 hb0 hs0 ho0 ⊢
  clear hW0
  go_loopw [10] (fun i wr => ∃ k : Nat, k ≤ 2 ∧ i = .int .i64 k ∧ Below w.heap.size w wr ∧ w.heap.size < wr.heap.size ∧ SpAt wr w.heap.size 0 ⟨r, r⟩ ∧ GL wr ∧ (0 < k → ¬ (0 ≤ r ∧ r ≤ 55295)) ∧ (1 < k → ¬ (57344 ≤ r ∧ r ≤ 1114111))) (fun i _ => 2 - (intOf i).toNat)
  case atStart => exact ⟨0, Nat.zero_le _, rfl, hb0, hs0, ho0, hG0, by omega, by omega⟩
  case round =>
    clear hG0 hb0 hs0 ho0
    obtain ⟨k, hk, rfl, hb, hsz, ⟨c0, c1⟩, hGr, n0, n1⟩ := hrel
    match k, hk with
    | 0, _ =>
      have q : spEq (comL ⟨r, r⟩ ⟨0, 55295⟩) ⟨r, r⟩ = (decide (0 ≤ r) && decide (r ≤ 55295)) := com_one r ⟨0, 55295⟩
      have hb2 : Below w.heap.size w (wr.alloc (.cells #[.int .i32 0, .int .i32 55295] 27)) := hb.alloc hb.size _
      have hG2 : GL (wr.alloc (.cells #[.int .i32 0, .int .i32 55295] 27)) := hGr.below ((Below.refl _ wr).alloc (Nat.le_refl _) _)
      have o2 : SpAt (wr.alloc (.cells #[.int .i32 0, .int .i32 55295] 27)) w.heap.size 0 ⟨r, r⟩ := SpAt.below ⟨c0, c1⟩ ((Below.refl _ wr).alloc (Nat.le_refl _) _)
      have p2 : SpAt (wr.alloc (.cells #[.int .i32 0, .int .i32 55295] 27)) wr.heap.size 0 ⟨0, 55295⟩ := ⟨by simp [go_sem], by simp [go_sem]⟩
      have s2 : w.heap.size < (wr.alloc (.cells #[.int .i32 0, .int .i32 55295] 27)).heap.size := by simp; omega
      go_wp2_with fail
      obtain ⟨W, hW⟩ : ∃ W, W = wr.alloc (.cells #[.int .i32 0, .int .i32 55295] 27) := ⟨_, rfl⟩
      rw [← hW] at hb2 hG2 o2 p2 s2 ⊢
      clear hW c0 c1 hb hsz hGr hp0 hp1
      have HC := fun d os => common_any ⟨r, r⟩ ⟨0, 55295⟩ (grow (redrawn W d) os) (hG2.below (below_regrown W d os))
      unfold spv at HC
      obtain ⟨v, hv⟩ : ∃ v, spEq (comL ⟨r, r⟩ ⟨0, 55295⟩) ⟨r, r⟩ = v := ⟨_, rfl⟩
      rw [hv] at q
      have HQ : Hid (v = (decide (0 ≤ r) && decide (r ≤ 55295))) := q
      clear q
      have HE := eqIn_sp (comL ⟨r, r⟩ ⟨0, 55295⟩) ⟨r, r⟩ v hv
      have HF := eql_sp (comL ⟨r, r⟩ ⟨0, 55295⟩) ⟨r, r⟩ v hv
      clear hv
      obtain ⟨c, hc⟩ : ∃ c, c = comL ⟨r, r⟩ ⟨0, 55295⟩ := ⟨_, rfl⟩
      rw [← hc] at HC HE HF
      clear hc
      have H2 := o2
      obtain ⟨k0, k1⟩ := o2
      obtain ⟨l0, l1⟩ := p2
      have k0 := cell_regrown k0
      have k1 := cell_regrown k1
      have l0 := cell_regrown l0
      have l1 := cell_regrown l1
      dsimp only at k0 k1 l0 l1 HE HF HC
      refine wp_region_quiet_below (by kernel_rfl) (by kernel_rfl) ?_
      repeat (go_big_quiet_step ((go_at_call 99; exact Calls.regrown_of (HC _ _))))
      refine wpQuiet_nil ?_
      intro W5 hw'
      have hb5 : Below W.heap.size W W5 := by
        obtain ⟨⟨dq, osq⟩, rfl⟩ := hw'
        exact below_regrown _ _ _
      clear hw' k0 k1 l0 l1 HE HF HC
      cases v with
      | true =>
        have hBt : B = true := hr.2 (by have q := HQ.out.symm; simp at q; omega)
        subst hBt
        clear HQ hr n0 n1
        go_wp2_with fail
        go_ret
        exact ⟨rfl, hb2.trans (hb5.mono hb2.size)⟩
      | false =>
        have hn : ¬ (0 ≤ r ∧ r ≤ 55295) := fun ⟨h1, h2⟩ => by have q := HQ.out; rw [decide_eq_true h1, decide_eq_true h2] at q; cases q
        clear HQ
        go_wp2_with fail
        exact ⟨⟨1, by omega, rfl, hb2.trans (hb5.mono hb2.size), Nat.lt_of_lt_of_le s2 hb5.size, H2.below hb5, hG2.below hb5, fun _ => hn, fun h => absurd h (by omega)⟩, by simp [intOf]⟩
    | 1, _ =>
      have q : spEq (comL ⟨r, r⟩ ⟨57344, 1114111⟩) ⟨r, r⟩ = (decide (57344 ≤ r) && decide (r ≤ 1114111)) := com_one r ⟨57344, 1114111⟩
      have hb2 : Below w.heap.size w (wr.alloc (.cells #[.int .i32 57344, .int .i32 1114111] 27)) := hb.alloc hb.size _
      have hG2 : GL (wr.alloc (.cells #[.int .i32 57344, .int .i32 1114111] 27)) := hGr.below ((Below.refl _ wr).alloc (Nat.le_refl _) _)
      have o2 : SpAt (wr.alloc (.cells #[.int .i32 57344, .int .i32 1114111] 27)) w.heap.size 0 ⟨r, r⟩ := SpAt.below ⟨c0, c1⟩ ((Below.refl _ wr).alloc (Nat.le_refl _) _)
      have p2 : SpAt (wr.alloc (.cells #[.int .i32 57344, .int .i32 1114111] 27)) wr.heap.size 0 ⟨57344, 1114111⟩ := ⟨by simp [go_sem], by simp [go_sem]⟩
      have s2 : w.heap.size < (wr.alloc (.cells #[.int .i32 57344, .int .i32 1114111] 27)).heap.size := by simp; omega
      go_wp2_with fail
      obtain ⟨W, hW⟩ : ∃ W, W = wr.alloc (.cells #[.int .i32 57344, .int .i32 1114111] 27) := ⟨_, rfl⟩
      rw [← hW] at hb2 hG2 o2 p2 s2 ⊢
      clear hW c0 c1 hb hsz hGr hp0 hp1
      have HC := fun d os => common_any ⟨r, r⟩ ⟨57344, 1114111⟩ (grow (redrawn W d) os) (hG2.below (below_regrown W d os))
      unfold spv at HC
      obtain ⟨v, hv⟩ : ∃ v, spEq (comL ⟨r, r⟩ ⟨57344, 1114111⟩) ⟨r, r⟩ = v := ⟨_, rfl⟩
      rw [hv] at q
      have HQ : Hid (v = (decide (57344 ≤ r) && decide (r ≤ 1114111))) := q
      clear q
      have HE := eqIn_sp (comL ⟨r, r⟩ ⟨57344, 1114111⟩) ⟨r, r⟩ v hv
      have HF := eql_sp (comL ⟨r, r⟩ ⟨57344, 1114111⟩) ⟨r, r⟩ v hv
      clear hv
      obtain ⟨c, hc⟩ : ∃ c, c = comL ⟨r, r⟩ ⟨57344, 1114111⟩ := ⟨_, rfl⟩
      rw [← hc] at HC HE HF
      clear hc
      have H2 := o2
      obtain ⟨k0, k1⟩ := o2
      obtain ⟨l0, l1⟩ := p2
      have k0 := cell_regrown k0
      have k1 := cell_regrown k1
      have l0 := cell_regrown l0
      have l1 := cell_regrown l1
      dsimp only at k0 k1 l0 l1 HE HF HC
      refine wp_region_quiet_below (by kernel_rfl) (by kernel_rfl) ?_
      repeat (go_big_quiet_step ((go_at_call 99; exact Calls.regrown_of (HC _ _))))
      refine wpQuiet_nil ?_
      intro W5 hw'
      have hb5 : Below W.heap.size W W5 := by
        obtain ⟨⟨dq, osq⟩, rfl⟩ := hw'
        exact below_regrown _ _ _
      clear hw' k0 k1 l0 l1 HE HF HC
      cases v with
      | true =>
        have hBt : B = true := hr.2 (by have q := HQ.out.symm; simp at q; omega)
        subst hBt
        clear HQ hr n0 n1
        go_wp2_with fail
        go_ret
        exact ⟨rfl, hb2.trans (hb5.mono hb2.size)⟩
      | false =>
        have hn : ¬ (57344 ≤ r ∧ r ≤ 1114111) := fun ⟨h1, h2⟩ => by have q := HQ.out; rw [decide_eq_true h1, decide_eq_true h2] at q; cases q
        clear HQ
        go_wp2_with fail
        exact ⟨⟨2, by omega, rfl, hb2.trans (hb5.mono hb2.size), Nat.lt_of_lt_of_le s2 hb5.size, H2.below hb5, hG2.below hb5, fun _ => n0 (by omega), fun _ => hn⟩, by simp [intOf]⟩
    | 2, _ =>
      have hBf : B = false := by
        cases B with
        | false => rfl
        | true => exact absurd (hr.1 rfl) (by have := n0 (by omega); have := n1 (by omega); omega)
      subst hBf
      clear c0 c1 hGr hr n0 n1
      go_wp2_with fail
      go_ret
      exact ⟨rfl, hb⟩
end Go.Proofs.YtjbdhakogbolkaaDoor
end
section
/- spans.Right, the document's own Rune and Right: their contracts. -/
namespace Go.Proofs.YtjbdhakogbolkaaDoor
open Go.RowKit Go.Sort
theorem badAt_14 {l : List Sp} {k : Nat} {x : Sp} (hx : l[k]? = some x) (h : runeB x.lo = false ∨ runeB x.hi = false) : badAt l k = 14 := by
  unfold badAt; rw [hx]; simp only; rw [if_pos h]
theorem badAt_15a {l : List Sp} {k : Nat} {x : Sp} (hx : l[k]? = some x) (h1 : runeB x.lo = true) (h2 : runeB x.hi = true) (h : x.hi < x.lo) : badAt l k = 15 := by
  unfold badAt; rw [hx]; simp only; rw [if_neg (by rw [h1, h2]; simp), if_pos h]
theorem badAt_15b {l : List Sp} {k : Nat} {x y : Sp} (hx : l[k + 1]? = some x) (hy : l[k]? = some y) (h1 : runeB x.lo = true) (h2 : runeB x.hi = true) (h : x.lo ≤ y.hi) : badAt l (k + 1) = 15 := by
  unfold badAt; rw [hx]; simp only [hy]; rw [if_neg (by rw [h1, h2]; simp)]; split
  · rfl
  · first | rfl | rw [if_pos h]
theorem badAt_0 {l : List Sp} {x : Sp} (hx : l[0]? = some x) (h1 : runeB x.lo = true) (h2 : runeB x.hi = true) (h : ¬ x.hi < x.lo) : badAt l 0 = 0 := by
  unfold badAt; rw [hx]; simp only; rw [if_neg (by rw [h1, h2]; simp), if_neg h]
theorem badAt_s {l : List Sp} {k : Nat} {x y : Sp} (hx : l[k + 1]? = some x) (hy : l[k]? = some y) (h1 : runeB x.lo = true) (h2 : runeB x.hi = true) (h : ¬ x.hi < x.lo) (h' : ¬ x.lo ≤ y.hi) : badAt l (k + 1) = 0 := by
  unfold badAt; rw [hx]; simp only [hy]; rw [if_neg (by rw [h1, h2]; simp), if_neg h, if_neg h']
/-- The rows ahead of k may stand there. -/
def Free (l : List Sp) (k : Nat) : Prop := ∀ j, j < k → badAt l j = 0
theorem Free.zero (l : List Sp) : Free l 0 := fun _ hj => absurd hj (Nat.not_lt_zero _)
theorem Free.succ {l : List Sp} {k : Nat} (h : Free l k) (h0 : badAt l k = 0) : Free l (k + 1) := fun j hj => by
  by_cases e : j = k
  · subst e; exact h0
  · exact h j (by omega)
/-- A right answer, as it is told. -/
def rowV (r : Nat × Nat) : Value := .tuple #[.int .i64 (r.1 : Nat), .int .i64 (r.2 : Nat)]
theorem rowV_at {l : List Sp} {k e : Nat} (hk : k < l.length) (hf : Free l k) (he : badAt l k = e) (h0 : e ≠ 0) : rowV (rightA l) = .tuple #[.int .i64 (k : Nat), .int .i64 (e : Nat)] := by
  rw [rightA_some hk hf (by rw [he]; exact h0), he]; rfl
theorem rowV_none {l : List Sp} (hf : Free l l.length) : rowV (rightA l) = .tuple #[.int .i64 0, .int .i64 0] := by
  rw [rightA_none hf]; rfl
set_option maxHeartbeats 2000000 in
theorem right_any (a : Option Addr) (cap : Nat) (l : List Sp) (w : World) (hlen : l.length ≤ 9223372036854775807) (h : SPS w a l) (hG : GL w) :
    Calls Tryd.prog 93 #[.slice a l.length cap] w fun e w' => e = .returned (rowV (rightA l)) ∧ Below w.heap.size w w' := by
  obtain ⟨n, hn⟩ : ∃ n, n = l.length := ⟨_, rfl⟩
  have HN : Hid (n = l.length) := hn
  rw [← hn] at hlen ⊢
  clear hn
  obtain ⟨R, hR⟩ : ∃ R, R = rowV (rightA l) := ⟨_, rfl⟩
  have HR : Hid (R = rowV (rightA l)) := hR
  rw [← hR]
  clear hR
  go_enter Tryd.func93, Tryd.ntmps93
  go_wp2
  go_loopw [8] (fun i wr => ∃ k : Nat, k ≤ n ∧ i = .int .i64 k ∧ Below w.heap.size w wr ∧ Free l k) (fun i _ => n - (intOf i).toNat)
  case atStart => exact ⟨0, Nat.zero_le _, rfl, Below.refl _ _, Free.zero l⟩
  case round =>
    obtain ⟨k, hk, rfl, hbr, hF⟩ := hrel
    by_cases hlt : k < n
    · have hkl : k < l.length := by rw [← HN.out]; exact hlt
      have hGr := hG.below hbr
      rcases h with h | ⟨b, off, rfl, hc⟩
      · subst h; simp at hkl
      obtain ⟨x, hx⟩ : ∃ x, l[k]? = some x := ⟨l[k], List.getElem?_eq_getElem hkl⟩
      obtain ⟨c0, c1⟩ := (hc k x hx).below hbr
      have HC : Hid (∀ i x, l[i]? = some x → SpAt w b (off + i * 2) x) := hc
      have HX : Hid (l[k]? = some x) := hx
      have hgt : (decide (0 < k)) = decide (0 < k) := rfl
      clear hc hx hG hgt
      go_wp2_with fail
      refine (isRune_any x.lo _ (hGr.below ((Below.refl _ wr).alloc (Nat.le_refl _) _))).mono ?_
      rintro e w1 ⟨rfl, hb1⟩
      have p1 : SpAt w1 wr.heap.size 0 x := SpAt.below ⟨by simp [go_sem], by simp [go_sem]⟩ hb1
      have hG1 := (hGr.below ((Below.refl _ wr).alloc (Nat.le_refl _) _)).below hb1
      have hB1 : Below w.heap.size w w1 := (hbr.alloc hbr.size _).trans (hb1.mono (by simp; have := hbr.size; omega))
      clear hb1 hGr
      obtain ⟨q0, q1⟩ := p1
      rw [Nat.zero_add] at q1
      have RET : ∀ (e : Nat) (W : World), Below w.heap.size w W → badAt l k = e → e ≠ 0 → Hid (R = .tuple #[.int .i64 (k : Nat), .int .i64 (e : Nat)]) := fun e W _ he h0 => by
        rw [HR.out]; exact rowV_at hkl hF he h0
      cases hr1 : runeB x.lo with
      | false =>
        have hE := RET 14 _ hB1 (badAt_14 HX.out (.inl hr1)) (by decide)
        clear hr1 q0 q1 c0 c1 RET
        go_wp2_with fail
        exact bodyPost_ret (v := .tuple #[.int .i64 (k : Nat), .int .i64 14]) (by simp [results, Tryd.results93, go_sem]) rfl ⟨by rw [hE.out]; rfl, hB1⟩
      | true =>
        go_wp2_with fail
        refine (isRune_any x.hi _ hG1).mono ?_
        rintro e w2 ⟨rfl, hb2⟩
        have hB2 := hB1.trans (hb2.mono hB1.size)
        have p2 := SpAt.below (w := w1) (b := wr.heap.size) (off := 0) (x := x) ⟨q0, q1⟩ hb2
        clear q0 q1 c0 c1 hG1
        obtain ⟨q0, q1⟩ := p2
        rw [Nat.zero_add] at q1
        cases hr2 : runeB x.hi with
        | false =>
          have hE := RET 14 _ hB1 (badAt_14 HX.out (.inr hr2)) (by decide)
          clear hr1 hr2 q0 q1 RET
          go_wp2_with fail
          exact bodyPost_ret (v := .tuple #[.int .i64 (k : Nat), .int .i64 14]) (by simp [results, Tryd.results93, go_sem]) rfl ⟨by rw [hE.out]; rfl, hB2⟩
        | true =>
          by_cases hlo : x.hi < x.lo
          · have hE := RET 15 _ hB1 (badAt_15a HX.out hr1 hr2 hlo) (by decide)
            have hd : decide (x.hi < x.lo) = true := decide_eq_true hlo
            clear hr1 hr2 RET hlo
            go_wp2_with fail
            go_quiet (fail)
            go_wp2_with fail
            exact bodyPost_ret (v := .tuple #[.int .i64 (k : Nat), .int .i64 15]) (by simp [results, Tryd.results93, go_sem]) rfl ⟨by rw [hE.out]; rfl, below_drewN hB2 nq⟩
          · have hd : decide (x.hi < x.lo) = false := decide_eq_false hlo
            cases k with
            | zero =>
              have h0 := badAt_0 HX.out hr1 hr2 hlo
              clear hr1 hr2 RET hlo
              go_wp2_with fail
              go_quiet (fail)
              go_wp2_with fail
              exact ⟨⟨1, by omega, rfl, below_drewN hB2 nq, hF.succ h0⟩, by simp only [intOf]; omega⟩
            | succ j =>
              obtain ⟨y, hy⟩ : ∃ y, l[j]? = some y := ⟨l[j], List.getElem?_eq_getElem (by omega)⟩
              obtain ⟨-, y1⟩ := ((HC.out j y hy).below hB2)
              have HY : Hid (l[j]? = some y) := hy
              clear hy
              have hdk : decide (0 < ((j + 1 : Nat) : Int)) = true := by simp
              by_cases hle : x.lo ≤ y.hi
              · have hE := RET 15 _ hB1 (badAt_15b HX.out HY.out hr1 hr2 hle) (by decide)
                have hd2 : decide (x.lo ≤ y.hi) = true := decide_eq_true hle
                clear hr1 hr2 RET hlo hle
                go_wp2_with fail
                go_quiet (fail)
                go_wp2_with fail
                exact bodyPost_ret (v := .tuple #[.int .i64 ((j : Int) + 1), .int .i64 15]) (by simp [results, Tryd.results93, go_sem]) rfl ⟨by rw [hE.out]; rfl, below_drewN hB2 nq⟩
              · have hd2 : decide (x.lo ≤ y.hi) = false := decide_eq_false hle
                have h0 := badAt_s HX.out HY.out hr1 hr2 hlo hle
                clear hr1 hr2 RET hlo hle
                go_wp2_with fail
                go_quiet (fail)
                go_wp2_with fail
                exact ⟨⟨j + 1 + 1, by omega, by go_num, below_drewN hB2 nq, hF.succ h0⟩, by simp only [intOf]; omega⟩
    · have hkn : k = n := by omega
      subst hkn
      rw [HN.out] at hF
      have hE := rowV_none hF
      rw [← HR.out] at hE
      have hE : Hid (R = .tuple #[.int .i64 0, .int .i64 0]) := hE
      go_wp2_with fail
      exact bodyPost_ret (v := .tuple #[.int .i64 0, .int .i64 0]) (by simp [results, Tryd.results93, go_sem]) rfl ⟨by rw [hE.out], hbr⟩
end Go.Proofs.YtjbdhakogbolkaaDoor
end
section
/- spans.Meet: its contract. -/
namespace Go.Proofs.YtjbdhakogbolkaaDoor
open Go.RowKit Go.Sort
theorem ov_nothing (x y : Sp) (v : Bool) (h : ovB x y = v) : (!spEq (comL x y) ⟨0, -1⟩) = v := by
  rw [← h]
  unfold spEq comL ovB
  by_cases h1 : min x.hi y.hi < max x.lo y.lo
  · rw [if_pos h1]
    simp
    omega
  · rw [if_neg h1, decide_eq_true (by omega : max x.lo y.lo ≤ min x.hi y.hi)]
    simp only [Bool.not_eq_true', Bool.and_eq_false_iff, beq_eq_false_iff_ne]
    omega
/-- Nothing ahead of i, or ahead of j, is of use any more. -/
def Past (a b : List Sp) (i j : Nat) : Prop := ∀ (p : Nat) (x : Sp) (q : Nat) (y : Sp), a[p]? = some x → b[q]? = some y → (p < i ∨ q < j) → ovB x y = false
theorem Past.zero (a b : List Sp) : Past a b 0 0 := fun _ _ _ _ _ _ h => by omega
theorem ovB_false {x y : Sp} : ovB x y = false ↔ min x.hi y.hi < max x.lo y.lo := by unfold ovB; simp
theorem Past.left {a b : List Sp} {i j : Nat} {x y : Sp} (h : Past a b i j) (ha : Rgt a) (hb : Rgt b) (hx : a[i]? = some x) (hy : b[j]? = some y) (ho : ovB x y = false) (hl : x.hi < y.hi) : Past a b (i + 1) j := by
  intro p u q v hu hv hpq
  by_cases e : p = i
  · subst e
    rw [hx] at hu
    cases hu
    rw [ovB_false] at ho ⊢
    have r1 := (ha.row hx).2.2
    by_cases e2 : q < j
    · have := h p x q v hx hv (.inr e2)
      rwa [ovB_false] at this
    · by_cases e3 : q = j
      · subst e3
        rw [hy] at hv
        cases hv
        exact ho
      · have := hb.rise (show j < q by omega) hy hv
        omega
  · exact h p u q v hu hv (by omega)
theorem Past.right {a b : List Sp} {i j : Nat} {x y : Sp} (h : Past a b i j) (ha : Rgt a) (hb : Rgt b) (hx : a[i]? = some x) (hy : b[j]? = some y) (ho : ovB x y = false) (hl : ¬ x.hi < y.hi) : Past a b i (j + 1) := by
  intro p u q v hu hv hpq
  by_cases e : q = j
  · subst e
    rw [hy] at hv
    cases hv
    rw [ovB_false] at ho ⊢
    have r1 := (hb.row hy).2.2
    by_cases e2 : p < i
    · have := h p u q y hu hy (.inl e2)
      rwa [ovB_false] at this
    · by_cases e3 : p = i
      · subst e3
        rw [hx] at hu
        cases hu
        exact ho
      · have := ha.rise (show i < p by omega) hx hu
        omega
  · exact h p u q v hu hv (by omega)
def meetV (r : Nat × Bool) : Value := .tuple #[.int .i64 (r.1 : Nat), .bool r.2]
theorem meetV_some {a b : List Sp} {i j : Nat} {x y : Sp} (h : Past a b i j) (hx : a[i]? = some x) (hy : b[j]? = some y) (ho : ovB x y = true) : meetV (meetA a b) = .tuple #[.int .i64 (i : Nat), .bool true] := by
  rw [meetA_some hx (fun p u hp hu => meets_false fun q v hv => h p u q v hu hv (.inl hp)) (meets_true.2 ⟨j, y, hy, ho⟩)]; rfl
theorem meetV_none {a b : List Sp} {i j : Nat} (h : Past a b i j) (he : a.length ≤ i ∨ b.length ≤ j) : meetV (meetA a b) = .tuple #[.int .i64 0, .bool false] := by
  rw [meetA_none (fun p u hu => meets_false fun q v hv => h p u q v hu hv (by
    have h1 := (List.getElem?_eq_some_iff.1 hu).1
    have h2 := (List.getElem?_eq_some_iff.1 hv).1
    omega))]; rfl
set_option maxHeartbeats 4000000 in
theorem meet_any (a b : Option Addr) (ca cb : Nat) (A B : List Sp) (w : World) (hla : A.length ≤ 9223372036854775807) (hlb : B.length ≤ 9223372036854775807) (hA : SPS w a A) (hB : SPS w b B) (hRa : Rgt A) (hRb : Rgt B) (hG : GL w) :
    Calls Tryd.prog 94 #[.slice a A.length ca, .slice b B.length cb] w fun e w' => e = .returned (meetV (meetA A B)) ∧ Below w.heap.size w w' := by
  obtain ⟨R, hR⟩ : ∃ R, R = meetV (meetA A B) := ⟨_, rfl⟩
  have HR : Hid (R = meetV (meetA A B)) := hR
  rw [← hR]
  clear hR
  obtain ⟨n, hn⟩ : ∃ n, n = A.length := ⟨_, rfl⟩
  have HN : Hid (n = A.length) := hn
  obtain ⟨m, hm⟩ : ∃ m, m = B.length := ⟨_, rfl⟩
  have HM : Hid (m = B.length) := hm
  rw [← hn] at hla ⊢
  rw [← hm] at hlb ⊢
  clear hn hm
  go_enter Tryd.func94, Tryd.ntmps94
  go_wp2
  go_loopw [6, 7] (fun i j wr => ∃ p q : Nat, p ≤ n ∧ q ≤ m ∧ i = .int .i64 p ∧ j = .int .i64 q ∧ Below w.heap.size w wr ∧ Past A B p q) (fun i j _ => (n - (intOf i).toNat) + (m - (intOf j).toNat))
  case atStart => exact ⟨0, 0, Nat.zero_le _, Nat.zero_le _, rfl, rfl, Below.refl _ _, Past.zero A B⟩
  case round =>
    obtain ⟨p, q, hp, hq, rfl, rfl, hbr, hP⟩ := hrel
    by_cases hlp : p < n
    · have dp : decide (p < n) = true := decide_eq_true hlp
      by_cases hlq : q < m
      · have hpl : p < A.length := by rw [← HN.out]; exact hlp
        have hql : q < B.length := by rw [← HM.out]; exact hlq
        rcases hA with h | ⟨ba, oa, rfl, hA⟩
        · subst h; simp at hpl
        rcases hB with h | ⟨bb, ob, rfl, hB⟩
        · subst h; simp at hql
        obtain ⟨x, hx⟩ : ∃ x, A[p]? = some x := ⟨_, List.getElem?_eq_getElem hpl⟩
        obtain ⟨y, hy⟩ : ∃ y, B[q]? = some y := ⟨_, List.getElem?_eq_getElem hql⟩
        obtain ⟨x0, x1⟩ := (hA p x hx).below hbr
        obtain ⟨y0, y1⟩ := (hB q y hy).below hbr
        have hGr := hG.below hbr
        obtain ⟨g0, g1, -⟩ := hGr.cells
        have HX : Hid (A[p]? = some x) := hx
        have HY : Hid (B[q]? = some y) := hy
        clear hA hB hx hy hpl hql hG
        have HC := fun d os => common_any x y (grow (redrawn wr d) os) (hGr.below (below_regrown wr d os))
        unfold spv at HC
        obtain ⟨v, hv⟩ : ∃ v, ovB x y = v := ⟨_, rfl⟩
        have HE := eqIn_sp (comL x y) ⟨0, -1⟩ (!v) (by rw [← ov_nothing x y v hv]; simp)
        have HF := neq_sp (comL x y) ⟨0, -1⟩ v (ov_nothing x y v hv)
        have HV : Hid (ovB x y = v) := hv
        clear hv
        obtain ⟨c, hc⟩ : ∃ c, c = comL x y := ⟨_, rfl⟩
        rw [← hc] at HC HE HF
        clear hc
        dsimp only at HE HF HC
        have k0 := cell_regrown x0
        have k1 := cell_regrown x1
        have l0 := cell_regrown y0
        have l1 := cell_regrown y1
        have e0 := cell_regrown g0
        have e1 := cell_regrown g1
        go_wp2_with fail
        refine wp_region_quiet_below (by kernel_rfl) (by kernel_rfl) ?_
        repeat (go_big_quiet_step ((go_at_call 99; exact Calls.regrown_of (HC _ _))))
        refine wpQuiet_nil ?_
        intro W5 hw'
        have hb5 : Below wr.heap.size wr W5 := by
          obtain ⟨⟨dq, osq⟩, rfl⟩ := hw'
          exact below_regrown _ _ _
        have k0 := (SpAt.below ⟨x0, x1⟩ hb5).1
        have k1 := (SpAt.below ⟨x0, x1⟩ hb5).2
        have l0 := (SpAt.below ⟨y0, y1⟩ hb5).1
        have l1 := (SpAt.below ⟨y0, y1⟩ hb5).2
        have hB5 : Below w.heap.size w W5 := hbr.trans (hb5.mono hbr.size)
        clear hw' HE HF HC e0 e1 x0 x1 y0 y1 g0 g1 hGr hb5 hbr
        cases v with
        | true =>
          have hE : Hid (R = .tuple #[.int .i64 (p : Nat), .bool true]) := by show R = _; rw [HR.out]; exact meetV_some hP HX.out HY.out HV.out
          clear k0 k1 l0 l1
          go_wp2_with fail
          exact bodyPost_ret (v := .tuple #[.int .i64 (p : Nat), .bool true]) (by simp [results, Tryd.results94, go_sem]) rfl ⟨by rw [hE.out], hB5⟩
        | false =>
          by_cases hh : x.hi < y.hi
          · have dd : decide (x.hi < y.hi) = true := decide_eq_true hh
            have hP' := hP.left hRa hRb HX.out HY.out HV.out hh
            clear hP
            go_wp2_with fail
            go_quiet (fail)
            go_wp2_with fail
            exact ⟨⟨p + 1, q, by omega, hq, by go_num, rfl, below_drewN hB5 nq, hP'⟩, by simp only [intOf]; omega⟩
          · have dd : decide (x.hi < y.hi) = false := decide_eq_false hh
            have hP' := hP.right hRa hRb HX.out HY.out HV.out hh
            clear hP
            go_wp2_with fail
            go_quiet (fail)
            go_wp2_with fail
            exact ⟨⟨p, q + 1, hp, by omega, rfl, by go_num, below_drewN hB5 nq, hP'⟩, by simp only [intOf]; omega⟩
      · have hqm : q = m := by omega
        subst hqm
        have hE : Hid (R = .tuple #[.int .i64 0, .bool false]) := by show R = _; rw [HR.out]; exact meetV_none hP (.inr (by rw [HM.out]; exact Nat.le_refl _))
        have dq : decide (q < q) = false := by simp
        go_wp2_with fail
        exact bodyPost_ret (v := .tuple #[.int .i64 0, .bool false]) (by simp [results, Tryd.results94, go_sem]) rfl ⟨by rw [hE.out], hbr⟩
    · have hpn : p = n := by omega
      subst hpn
      have hE : Hid (R = .tuple #[.int .i64 0, .bool false]) := by show R = _; rw [HR.out]; exact meetV_none hP (.inl (by rw [HN.out]; exact Nat.le_refl _))
      go_wp2_with fail
      exact bodyPost_ret (v := .tuple #[.int .i64 0, .bool false]) (by simp [results, Tryd.results94, go_sem]) rfl ⟨by rw [hE.out], hbr⟩
end Go.Proofs.YtjbdhakogbolkaaDoor
end
