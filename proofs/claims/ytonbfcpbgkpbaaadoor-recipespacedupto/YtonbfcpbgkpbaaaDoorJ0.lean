import Derived.Test.YtonbfcpbgkpbaaaDoorProg
import Derived.Test.YtonbfcpbgkpbaaaDoorRows
import Derived.WalkKit
import Derived.ProofKit
import Derived.Below
import Derived.OpenShut
import Derived.WalkSpells
import Derived.WalkLawsBesides
import Derived.Deep.QuietTactic
import Derived.BigQuiet
import Derived.Laws.StructEq
import Derived.Lib.SmallJoins
import Derived.Laws.CopyOwn
import Derived.Laws.MakeOwn
import Derived.Laws.OwnMore
import Derived.Deep.DeepMust
import Derived.Lib.UnsafeStr
import Derived.Lib.BufferWrite
section
/- Spans: what they are, and what is asked of them: the mathematics. -/
namespace Go.Proofs.YtonbfcpbgkpbaaaDoor
/-- A span. -/
structure Sp where
  lo : Int
  hi : Int
/-- Is it a scalar value? -/
def runeB (r : Int) : Bool := decide (0 ≤ r) && decide (r ≤ 1114111) && (decide (r < 55296) || decide (57343 < r))
theorem runeB_iff (r : Int) : runeB r = true ↔ 0 ≤ r ∧ r ≤ 1114111 ∧ (r < 55296 ∨ 57343 < r) := by
  simp [runeB, and_assoc]
/-- What two spans have in common. -/
def comL (x y : Sp) : Sp := if min x.hi y.hi < max x.lo y.lo then ⟨0, -1⟩ else ⟨max x.lo y.lo, min x.hi y.hi⟩
/-- The two spans of all runes. -/
def lowR : Sp := ⟨0, 55295⟩
def highR : Sp := ⟨57344, 1114111⟩
/-- Do two spans lie over each other? -/
def ovB (x y : Sp) : Bool := decide (max x.lo y.lo ≤ min x.hi y.hi)
/-- Why row i may not stand there: 0: it may. -/
def badAt (l : List Sp) (i : Nat) : Nat :=
  match l[i]? with
  | none => 0
  | some x => if runeB x.lo = false ∨ runeB x.hi = false then 14 else if x.hi < x.lo then 15 else
    match i with
    | 0 => 0
    | j + 1 => match l[j]? with
      | none => 0
      | some y => if x.lo ≤ y.hi then 15 else 0
def rightA (l : List Sp) : Nat × Nat :=
  match (List.range l.length).find? (fun i => decide (badAt l i ≠ 0)) with
  | some i => (i, badAt l i)
  | none => (0, 0)
def Rgt (l : List Sp) : Prop := ∀ j, j < l.length → badAt l j = 0
theorem rightA_some {l : List Sp} {k : Nat} (hk : k < l.length) (hb : ∀ j, j < k → badAt l j = 0) (h : badAt l k ≠ 0) : rightA l = (k, badAt l k) := by
  have : (List.range l.length).find? (fun i => decide (badAt l i ≠ 0)) = some k := by
    rw [List.find?_range_eq_some]
    refine ⟨by simpa using h, by simpa using hk, fun j hj => by simpa using hb j hj⟩
  unfold rightA
  rw [this]
theorem rightA_none {l : List Sp} (h : Rgt l) : rightA l = (0, 0) := by
  have : (List.range l.length).find? (fun i => decide (badAt l i ≠ 0)) = none := by
    rw [List.find?_range_eq_none]
    exact fun j hj => by simpa using h j hj
  unfold rightA
  rw [this]
theorem rightA_zero {l : List Sp} (h : (rightA l).2 = 0) : Rgt l := by
  intro j hj
  unfold rightA at h
  cases hf : (List.range l.length).find? (fun i => decide (badAt l i ≠ 0)) with
  | some i =>
    rw [hf] at h
    rw [List.find?_range_eq_some] at hf
    have := hf.1
    simp at this
    exact absurd h this
  | none =>
    rw [List.find?_range_eq_none] at hf
    simpa using hf j hj
theorem rightA_le (l : List Sp) : (rightA l).1 ≤ l.length ∧ (rightA l).2 ≤ 15 := by
  unfold rightA
  cases hf : (List.range l.length).find? (fun i => decide (badAt l i ≠ 0)) with
  | some i =>
    rw [List.find?_range_eq_some] at hf
    have := hf.2.1
    simp at this
    refine ⟨by simp; omega, ?_⟩
    simp only
    unfold badAt
    split
    · omega
    · split
      · omega
      · split
        · omega
        · split
          · omega
          · split
            · omega
            · split <;> omega
  | none => simp
/-- What a right row is. -/
theorem Rgt.row {l : List Sp} (h : Rgt l) {i : Nat} {x : Sp} (hx : l[i]? = some x) : runeB x.lo = true ∧ runeB x.hi = true ∧ x.lo ≤ x.hi := by
  have := h i (List.getElem?_eq_some_iff.1 hx).1
  unfold badAt at this
  rw [hx] at this
  simp only at this
  split at this
  · omega
  · rename_i h1
    split at this
    · omega
    · rename_i h2
      refine ⟨?_, ?_, by omega⟩
      · cases hb : runeB x.lo with
        | true => rfl
        | false => exact absurd (.inl hb) h1
      · cases hb : runeB x.hi with
        | true => rfl
        | false => exact absurd (.inr hb) h1
theorem Rgt.next {l : List Sp} (h : Rgt l) {i : Nat} {x y : Sp} (hx : l[i]? = some x) (hy : l[i + 1]? = some y) : x.hi < y.lo := by
  have := h (i + 1) (List.getElem?_eq_some_iff.1 hy).1
  unfold badAt at this
  rw [hy] at this
  simp only [hx] at this
  split at this
  · omega
  · split at this
    · omega
    · split at this <;> omega
theorem Rgt.rise {l : List Sp} (h : Rgt l) {i j : Nat} {x y : Sp} (hij : i < j) (hx : l[i]? = some x) (hy : l[j]? = some y) : x.hi < y.lo := by
  induction j generalizing y with
  | zero => omega
  | succ j ih =>
    by_cases e : i = j
    · subst e; exact h.next hx hy
    · have hj : j < l.length := by have := (List.getElem?_eq_some_iff.1 hy).1; omega
      have hz : l[j]? = some l[j] := List.getElem?_eq_getElem hj
      have h1 := ih (by omega) hz
      have h2 := h.next hz hy
      have h3 := (h.row hz).2.2
      omega
theorem Rgt.nil : Rgt [] := fun j hj => by simp at hj
/-- Does r lie in it? -/
def inB (l : List Sp) (r : Int) : Bool := runeB r && l.any fun x => decide (x.lo ≤ r) && decide (r ≤ x.hi)
/-- The first span of a that meets b. -/
def meets (b : List Sp) (x : Sp) : Bool := b.any (ovB x)
def meetA (a b : List Sp) : Nat × Bool :=
  match (List.range a.length).find? (fun i => (a[i]?).any (meets b)) with
  | some i => (i, true)
  | none => (0, false)
theorem meetA_some {a b : List Sp} {k : Nat} {x : Sp} (hx : a[k]? = some x) (hb : ∀ (j : Nat) (y : Sp), j < k → a[j]? = some y → meets b y = false) (h : meets b x = true) : meetA a b = (k, true) := by
  have : (List.range a.length).find? (fun i => (a[i]?).any (meets b)) = some k := by
    rw [List.find?_range_eq_some]
    refine ⟨by rw [hx]; exact h, by simpa using (List.getElem?_eq_some_iff.1 hx).1, fun j hj => ?_⟩
    have hj' : j < a.length := by have := (List.getElem?_eq_some_iff.1 hx).1; omega
    have hz : a[j]? = some a[j] := List.getElem?_eq_getElem hj'
    rw [hz]
    simpa using hb j _ hj hz
  unfold meetA
  rw [this]
theorem meetA_none {a b : List Sp} (hb : ∀ (j : Nat) (y : Sp), a[j]? = some y → meets b y = false) : meetA a b = (0, false) := by
  have : (List.range a.length).find? (fun i => (a[i]?).any (meets b)) = none := by
    rw [List.find?_range_eq_none]
    intro j hj
    have hz : a[j]? = some a[j] := List.getElem?_eq_getElem hj
    rw [hz]
    simpa using hb j _ hz
  unfold meetA
  rw [this]
theorem meetA_true {a b : List Sp} : (meetA a b).2 = true ↔ ∃ (i : Nat) (x : Sp), a[i]? = some x ∧ meets b x = true := by
  unfold meetA
  cases hf : (List.range a.length).find? (fun i => (a[i]?).any (meets b)) with
  | some i =>
    rw [List.find?_range_eq_some] at hf
    obtain ⟨h1, h2, _⟩ := hf
    simp at h2
    rw [List.getElem?_eq_getElem h2] at h1
    simp only [true_iff]
    exact ⟨i, _, List.getElem?_eq_getElem h2, h1⟩
  | none =>
    rw [List.find?_range_eq_none] at hf
    simp only [Bool.false_eq_true, false_iff]
    rintro ⟨i, x, hx, hm⟩
    have := hf i (List.getElem?_eq_some_iff.1 hx).1
    rw [hx] at this
    simp [hm] at this
theorem meets_true {b : List Sp} {x : Sp} : meets b x = true ↔ ∃ (j : Nat) (y : Sp), b[j]? = some y ∧ ovB x y = true := by
  unfold meets
  rw [List.any_eq_true]
  constructor
  · rintro ⟨y, hy, ho⟩
    obtain ⟨j, hj⟩ := List.getElem?_of_mem hy
    exact ⟨j, y, hj, ho⟩
  · rintro ⟨j, y, hj, ho⟩
    exact ⟨y, List.mem_of_getElem? hj, ho⟩
theorem meets_false {b : List Sp} {x : Sp} (h : ∀ (j : Nat) (y : Sp), b[j]? = some y → ovB x y = false) : meets b x = false := by
  cases hm : meets b x with
  | false => rfl
  | true =>
    obtain ⟨j, y, hj, ho⟩ := meets_true.1 hm
    rw [h j y hj] at ho
    cases ho
theorem ovB_comm (x y : Sp) : ovB x y = ovB y x := by unfold ovB; rw [Int.max_comm, Int.min_comm]
theorem meetA_comm (a b : List Sp) : (meetA a b).2 = (meetA b a).2 := by
  have h : ∀ a b : List Sp, (meetA a b).2 = true → (meetA b a).2 = true := by
    intro a b h
    obtain ⟨i, x, hx, hm⟩ := meetA_true.1 h
    obtain ⟨j, y, hy, ho⟩ := meets_true.1 hm
    exact meetA_true.2 ⟨j, y, hy, meets_true.2 ⟨i, x, hx, by rw [ovB_comm]; exact ho⟩⟩
  cases h1 : (meetA a b).2 with
  | true => rw [h a b h1]
  | false =>
    cases h2 : (meetA b a).2 with
    | false => rfl
    | true => rw [h b a h2] at h1; cases h1
/-- A rune of both: they meet. -/
theorem meet_of_in {a b : List Sp} {r : Int} (ha : inB a r = true) (hb : inB b r = true) : (meetA a b).2 = true := by
  unfold inB at ha hb
  simp only [Bool.and_eq_true, List.any_eq_true, decide_eq_true_eq] at ha hb
  obtain ⟨_, x, hx, h1, h2⟩ := ha
  obtain ⟨_, y, hy, h3, h4⟩ := hb
  obtain ⟨i, hi⟩ := List.getElem?_of_mem hx
  obtain ⟨j, hj⟩ := List.getElem?_of_mem hy
  refine meetA_true.2 ⟨i, x, hi, meets_true.2 ⟨j, y, hj, ?_⟩⟩
  unfold ovB
  simp only [decide_eq_true_eq]
  omega
end Go.Proofs.YtonbfcpbgkpbaaaDoor
end
section
/- Classes: what New asks, rule by rule; kinds: the mathematics. -/
namespace Go.Proofs.YtonbfcpbgkpbaaaDoor
/-- The list of the number k. -/
def pickL (A B C : List Sp) : Nat → List Sp
  | 1 => A
  | 2 => B
  | 3 => C
  | _ => []
/-- Too many spans? -/
def manyA (l : List Sp) : Nat × Nat := if 512 < l.length then (512, 4) else (0, 0)
/-- One list ahead more. -/
def ovS (X : List Sp) (f : Int) (Y : List Sp) : Int := if (meetA X Y).2 = true ∧ (f < 0 ∨ ((meetA X Y).1 : Int) < f) then ((meetA X Y).1 : Int) else f
/-- The first row of X that meets one of L; -1: there is none. -/
def ovI (X : List Sp) (L : List (List Sp)) : Int := L.foldl (ovS X) (-1)
def overA (X : List Sp) (L : List (List Sp)) : Nat × Nat := if ovI X L < 0 then (0, 0) else ((ovI X L).toNat, 16)
/-- The lists ahead of the number k. -/
def ahead (A B : List Sp) (k : Nat) : List (List Sp) := [[], A, B].take k
/-- The rule r at the list i: the row, and why. -/
def ruleA (A B C : List Sp) (r i : Nat) : Nat × Nat :=
  match r with
  | 0 => manyA (pickL A B C i)
  | 1 => rightA (pickL A B C i)
  | _ => overA (pickL A B C i) (ahead A B i)
def ent (A B C : List Sp) (q : Nat) : Nat × Nat := ruleA A B C (q / 3) (q % 3 + 1)
/-- The kind of a rune. -/
def kindOf (A B C : List Sp) (r : Int) : Nat := if inB A r then 1 else if inB B r then 2 else if inB C r then 3 else 4
/-- The last rule. -/
def blankB (A B C : List Sp) : Bool := !inB C 32 || inB A 39 || inB B 39 || inB C 39
/-- Why, which list, which row. -/
def checkA (A B C : List Sp) : Nat × Nat × Nat :=
  match (List.range 9).find? (fun q => decide ((ent A B C q).2 ≠ 0)) with
  | some q => ((ent A B C q).2, q % 3 + 1, (ent A B C q).1)
  | none => if blankB A B C then (20, 3, 0) else (0, 0, 0)
/-- All that is asked ahead of place q holds. -/
def Pass (A B C : List Sp) (q : Nat) : Prop := ∀ j, j < q → (ent A B C j).2 = 0
theorem Pass.zero (A B C : List Sp) : Pass A B C 0 := fun _ h => absurd h (Nat.not_lt_zero _)
theorem Pass.succ {A B C : List Sp} {q : Nat} (h : Pass A B C q) (h0 : (ent A B C q).2 = 0) : Pass A B C (q + 1) := fun j hj => by
  by_cases e : j = q
  · subst e; exact h0
  · exact h j (by omega)
theorem Pass.le {A B C : List Sp} {q p : Nat} (h : Pass A B C q) (hp : p ≤ q) : Pass A B C p := fun j hj => h j (by omega)
theorem check_bad {A B C : List Sp} {q : Nat} (hq : q < 9) (h : Pass A B C q) (h0 : (ent A B C q).2 ≠ 0) : checkA A B C = ((ent A B C q).2, q % 3 + 1, (ent A B C q).1) := by
  have : (List.range 9).find? (fun q => decide ((ent A B C q).2 ≠ 0)) = some q := by
    rw [List.find?_range_eq_some]
    exact ⟨by simpa using h0, by simpa using hq, fun j hj => by simpa using h j hj⟩
  unfold checkA
  rw [this]
theorem check_end {A B C : List Sp} (h : Pass A B C 9) : checkA A B C = if blankB A B C then (20, 3, 0) else (0, 0, 0) := by
  have : (List.range 9).find? (fun q => decide ((ent A B C q).2 ≠ 0)) = none := by
    rw [List.find?_range_eq_none]
    exact fun j hj => by simpa using h j hj
  unfold checkA
  rw [this]
theorem check_pass {A B C : List Sp} (h : (checkA A B C).1 = 0) : Pass A B C 9 ∧ blankB A B C = false := by
  cases hf : (List.range 9).find? (fun q => decide ((ent A B C q).2 ≠ 0)) with
  | some q =>
    unfold checkA at h
    rw [hf] at h
    rw [List.find?_range_eq_some] at hf
    have := hf.1
    simp at this
    exact absurd h this
  | none =>
    unfold checkA at h
    rw [hf] at h
    rw [List.find?_range_eq_none] at hf
    refine ⟨fun j hj => by simpa using hf j hj, ?_⟩
    cases hb : blankB A B C with
    | false => rfl
    | true => rw [hb] at h; simp at h
theorem check_zero {A B C : List Sp} (h : (checkA A B C).1 = 0) : checkA A B C = (0, 0, 0) := by
  obtain ⟨h1, h2⟩ := check_pass h
  rw [check_end h1, h2]
  rfl
theorem ent_many (A B C : List Sp) {q : Nat} (hq : q < 3) : ent A B C q = manyA (pickL A B C (q + 1)) := by
  unfold ent
  rw [show q / 3 = 0 by omega, show q % 3 = q by omega]; rfl
theorem ent_right (A B C : List Sp) {q : Nat} (hq : q < 3) : ent A B C (3 + q) = rightA (pickL A B C (q + 1)) := by
  unfold ent
  rw [show (3 + q) / 3 = 1 by omega, show (3 + q) % 3 = q by omega]; rfl
theorem ent_over (A B C : List Sp) {q : Nat} (hq : q < 3) : ent A B C (6 + q) = overA (pickL A B C (q + 1)) (ahead A B (q + 1)) := by
  unfold ent
  rw [show (6 + q) / 3 = 2 by omega, show (6 + q) % 3 = q by omega]; rfl
theorem ent_rule (A B C : List Sp) {r i : Nat} (hi : 1 ≤ i) (hi3 : i ≤ 3) : ent A B C (3 * r + (i - 1)) = ruleA A B C r i := by
  unfold ent
  rw [show (3 * r + (i - 1)) / 3 = r by omega, show (3 * r + (i - 1)) % 3 + 1 = i by omega]
theorem manyA_zero {l : List Sp} (h : (manyA l).2 = 0) : l.length ≤ 512 := by
  unfold manyA at h
  split at h
  · simp at h
  · omega
theorem Pass.len {A B C : List Sp} {q : Nat} (h : Pass A B C q) (hq : 3 ≤ q) : A.length ≤ 512 ∧ B.length ≤ 512 ∧ C.length ≤ 512 := by
  have h0 := h 0 (by omega)
  have h1 := h 1 (by omega)
  have h2 := h 2 (by omega)
  rw [ent_many _ _ _ (by omega)] at h0 h1 h2
  exact ⟨manyA_zero h0, manyA_zero h1, manyA_zero h2⟩
theorem Pass.rgt {A B C : List Sp} {q : Nat} (h : Pass A B C q) (hq : 6 ≤ q) : Rgt A ∧ Rgt B ∧ Rgt C := by
  have h0 := h (3 + 0) (by omega)
  have h1 := h (3 + 1) (by omega)
  have h2 := h (3 + 2) (by omega)
  rw [ent_right _ _ _ (by omega)] at h0 h1 h2
  exact ⟨rightA_zero h0, rightA_zero h1, rightA_zero h2⟩
theorem ovS_neg {X Y : List Sp} {f : Int} : ovS X f Y < 0 ↔ f < 0 ∧ (meetA X Y).2 = false := by
  unfold ovS
  cases hm : (meetA X Y).2 with
  | false => simp
  | true =>
    split
    · constructor
      · intro h; omega
      · rintro ⟨_, h⟩; cases h
    · rename_i h
      constructor
      · intro h'; exact absurd ⟨rfl, .inl h'⟩ h
      · rintro ⟨_, h'⟩; cases h'
theorem ovF_neg {X : List Sp} (L : List (List Sp)) (f : Int) : L.foldl (ovS X) f < 0 ↔ f < 0 ∧ ∀ Y, Y ∈ L → (meetA X Y).2 = false := by
  induction L generalizing f with
  | nil => simp
  | cons Z L ih =>
    rw [List.foldl_cons, ih, ovS_neg]
    simp [and_assoc]
theorem ovI_neg {X : List Sp} {L : List (List Sp)} : ovI X L < 0 ↔ ∀ Y, Y ∈ L → (meetA X Y).2 = false := by
  unfold ovI
  rw [ovF_neg]
  simp
theorem ovI_take {X : List Sp} {L : List (List Sp)} {j : Nat} {Y : List Sp} (h : L[j]? = some Y) : ovI X (L.take (j + 1)) = ovS X (ovI X (L.take j)) Y := by
  unfold ovI
  rw [List.take_add_one, h, List.foldl_append]
  rfl
theorem meetA_nil (X : List Sp) : meetA X [] = (0, false) := meetA_none fun _ _ _ => by simp [meets]
theorem ovS_nil (X : List Sp) (f : Int) : ovS X f [] = f := by
  unfold ovS
  rw [meetA_nil]
  simp
theorem ovI_nil (X : List Sp) (L : List (List Sp)) : ovI X ([] :: L) = ovI X L := by
  unfold ovI
  rw [List.foldl_cons, ovS_nil]
theorem Pass.apart {A B C : List Sp} (h : Pass A B C 9) : (meetA B A).2 = false ∧ (meetA C A).2 = false ∧ (meetA C B).2 = false := by
  have h1 := h (6 + 1) (by omega)
  have h2 := h (6 + 2) (by omega)
  rw [ent_over _ _ _ (by omega)] at h1 h2
  have ho : ∀ X L, (overA X L).2 = 0 → ∀ Y, Y ∈ L → (meetA X Y).2 = false := by
    intro X L h
    unfold overA at h
    split at h
    · rename_i hn
      exact ovI_neg.1 hn
    · simp at h
  exact ⟨ho _ _ h1 A (by simp [ahead]), ho _ _ h2 A (by simp [ahead]), ho _ _ h2 B (by simp [ahead])⟩
theorem not_in {a b : List Sp} {r : Int} (h : (meetA a b).2 = false) (ha : inB a r = true) : inB b r = false := by
  cases hb : inB b r with
  | false => rfl
  | true => rw [meet_of_in ha hb] at h; cases h
theorem blank_of {A B C : List Sp} (h : Pass A B C 9) : (decide (kindOf A B C 32 ≠ 3) || decide (kindOf A B C 39 ≠ 4)) = blankB A B C := by
  obtain ⟨h1, h2, h3⟩ := h.apart
  unfold kindOf blankB
  cases hc : inB C 32 with
  | true =>
    rw [not_in h2 hc, not_in h3 hc]
    cases inB A 39 <;> cases inB B 39 <;> cases inB C 39 <;> simp
  | false =>
    cases inB A 32 <;> cases inB B 32 <;> simp
theorem kindOf_range (A B C : List Sp) (r : Int) : 1 ≤ kindOf A B C r ∧ kindOf A B C r ≤ 4 := by
  unfold kindOf
  split
  · omega
  · split
    · omega
    · split <;> omega
theorem check_row {A B C : List Sp} : (checkA A B C).1 ≤ 20 ∧ (checkA A B C).2.1 ≤ 3 := by
  unfold checkA
  split
  · rename_i q hf
    rw [List.find?_range_eq_some] at hf
    refine ⟨?_, by simp only; omega⟩
    simp only
    unfold ent ruleA
    split
    · unfold manyA; split <;> simp
    · have := (rightA_le (pickL A B C (q % 3 + 1))).2; omega
    · unfold overA; split <;> simp
  · split <;> simp
end Go.Proofs.YtonbfcpbgkpbaaaDoor
end
section
/- Models: what they are, and which are right: the mathematics. -/
namespace Go.Proofs.YtonbfcpbgkpbaaaDoor
/-- A merge. -/
structure Mg where
  l : Int
  r : Int
  i : Int
/-- The text of one byte. -/
def byteS (id : Int) : ByteArray := ⟨#[UInt8.ofNat id.toNat]⟩
/-- An id's word. -/
def wordM (ws : List ByteArray) (id : Int) : Option ByteArray :=
  if 0 ≤ id ∧ id < 256 then some (byteS id) else if 256 ≤ id then ws[(id - 256).toNat]? else none
/-- Is an id a byte's, or that of one of the first n merges? -/
def madeM (ms : List Mg) (n : Nat) (id : Int) : Bool := (decide (0 ≤ id) && decide (id < 256)) || (decide (256 ≤ id) && (ms.take n).any fun x => x.i == id)
/-- The words of two ids, one behind the other. -/
def joinM (ws : List ByteArray) (l r : Int) : ByteArray := (wordM ws l).getD ⟨#[]⟩ ++ (wordM ws r).getD ⟨#[]⟩
def badW (ws : List ByteArray) (i : Nat) : Nat :=
  match ws[i]? with
  | none => 0
  | some w => if w.size < 2 ∨ 256 < w.size then 21 else if (ws.take i).any (fun v => decide (v = w)) = true then 22 else 0
def cutM (ws : List ByteArray) (ms : List Mg) (i : Nat) : Nat :=
  match ms[i]? with
  | none => 0
  | some x => if x.i < 256 ∨ (ws.length : Int) ≤ x.i - 256 ∨ madeM ms i x.i = true then 24 else if madeM ms i x.l = false ∨ madeM ms i x.r = false then 23 else if wordM ws x.i ≠ some (joinM ws x.l x.r) then 25 else 0
def pairB (x : Mg) (l r : Int) : Bool := x.l == l && x.r == r
def badM (ws : List ByteArray) (ms : List Mg) (i : Nat) : Nat :=
  if cutM ws ms i ≠ 0 then cutM ws ms i else
  match ms[i]? with
  | none => 0
  | some x => if (ms.take i).any (fun y => pairB y x.l x.r) = true then 22 else 0
/-- The first of n that f refuses. -/
def firstBad (f : Nat → Nat) (n : Nat) : Nat × Nat :=
  match (List.range n).find? (fun i => decide (f i ≠ 0)) with
  | some i => (f i, i)
  | none => (0, 0)
theorem firstBad_some {f : Nat → Nat} {n k : Nat} (hk : k < n) (hb : ∀ j, j < k → f j = 0) (h : f k ≠ 0) : firstBad f n = (f k, k) := by
  have : (List.range n).find? (fun i => decide (f i ≠ 0)) = some k := by
    rw [List.find?_range_eq_some]
    refine ⟨by simpa using h, by simpa using hk, fun j hj => by simpa using hb j hj⟩
  unfold firstBad
  rw [this]
theorem firstBad_none {f : Nat → Nat} {n : Nat} (h : ∀ j, j < n → f j = 0) : firstBad f n = (0, 0) := by
  have : (List.range n).find? (fun i => decide (f i ≠ 0)) = none := by
    rw [List.find?_range_eq_none]
    intro i hi
    simpa using h i hi
  unfold firstBad
  rw [this]
theorem firstBad_cases (f : Nat → Nat) (n : Nat) : (∀ j, j < n → f j = 0) ∧ firstBad f n = (0, 0) ∨ ∃ k, k < n ∧ (∀ j, j < k → f j = 0) ∧ f k ≠ 0 ∧ firstBad f n = (f k, k) := by
  cases h : (List.range n).find? (fun i => decide (f i ≠ 0)) with
  | none =>
    left
    have h' := List.find?_range_eq_none.1 h
    have h2 : ∀ j, j < n → f j = 0 := fun j hj => by simpa using h' j hj
    exact ⟨h2, firstBad_none h2⟩
  | some k =>
    right
    obtain ⟨h1, h2, h3⟩ := List.find?_range_eq_some.1 h
    have hk : k < n := by simpa using h2
    have hb : ∀ j, j < k → f j = 0 := fun j hj => by simpa using h3 j hj
    have hn : f k ≠ 0 := by simpa using h1
    exact ⟨k, hk, hb, hn, firstBad_some hk hb hn⟩
theorem firstBad_zero {f : Nat → Nat} {n : Nat} (h : (firstBad f n).1 = 0) : ∀ j, j < n → f j = 0 := by
  rcases firstBad_cases f n with ⟨h1, _⟩ | ⟨k, _, _, h3, h4⟩
  · exact h1
  · rw [h4] at h; exact absurd h h3
theorem firstBad_congr {f g : Nat → Nat} {n : Nat} (h : ∀ i, i < n → (∀ j, j < i → f j = 0) → f i = g i) : firstBad f n = firstBad g n := by
  have hz : ∀ i, i ≤ n → (∀ j, j < i → f j = 0) → ∀ j, j < i → g j = 0 := fun i hi hf j hj => by
    rw [← h j (by omega) (fun k hk => hf k (by omega))]; exact hf j hj
  rcases firstBad_cases f n with ⟨h1, h2⟩ | ⟨k, h1, h2, h3, h4⟩
  · rw [h2, firstBad_none (hz n (Nat.le_refl _) h1)]
  · have e := h k h1 h2
    rw [h4, firstBad_some h1 (hz k (by omega) h2) (by rw [← e]; exact h3), e]
/-- P5.1. -/
def checkD (ws : List ByteArray) (ms : List Mg) (A B C : List Sp) : Nat × Nat × Nat :=
  if 4096 < ms.length then (4, 5, 4096)
  else if ws.length ≠ ms.length then (4, 4, min ws.length ms.length)
  else if (checkA A B C).1 ≠ 0 then checkA A B C
  else if (firstBad (badW ws) ws.length).1 ≠ 0 then ((firstBad (badW ws) ws.length).1, 4, (firstBad (badW ws) ws.length).2)
  else if (firstBad (badM ws ms) ms.length).1 ≠ 0 then ((firstBad (badM ws ms) ms.length).1, 5, (firstBad (badM ws ms) ms.length).2)
  else (0, 0, 0)
/-- Words that are right: each is. -/
def WRgt (ws : List ByteArray) : Prop := ∀ j, j < ws.length → badW ws j = 0
theorem WRgt.size {ws : List ByteArray} (h : WRgt ws) {j : Nat} {w : ByteArray} (hj : ws[j]? = some w) : 2 ≤ w.size ∧ w.size ≤ 256 := by
  have := h j (List.getElem?_eq_some_iff.1 hj).1
  unfold badW at this
  rw [hj] at this
  simp only at this
  by_cases hc : w.size < 2 ∨ 256 < w.size
  · rw [if_pos hc] at this; cases this
  · omega
theorem WRgt.inj {ws : List ByteArray} (h : WRgt ws) {i j : Nat} {w : ByteArray} (hi : ws[i]? = some w) (hj : ws[j]? = some w) : i = j := by
  have key : ∀ i j, i < j → ws[i]? = some w → ws[j]? = some w → False := fun i j hij hi hj => by
    have := h j (List.getElem?_eq_some_iff.1 hj).1
    unfold badW at this
    rw [hj] at this
    simp only at this
    split at this
    · cases this
    · rw [if_pos] at this
      · cases this
      · rw [List.any_eq_true]
        refine ⟨w, ?_, by simp⟩
        rw [List.mem_iff_getElem?]
        exact ⟨i, by rw [List.getElem?_take_of_lt hij]; exact hi⟩
  rcases Nat.lt_trichotomy i j with h1 | h1 | h1
  · exact (key i j h1 hi hj).elim
  · exact h1
  · exact (key j i h1 hj hi).elim
theorem cutM_zero {ws : List ByteArray} {ms : List Mg} {i : Nat} {x : Mg} (hx : ms[i]? = some x) (h : cutM ws ms i = 0) :
    256 ≤ x.i ∧ x.i - 256 < ws.length ∧ madeM ms i x.i = false ∧ madeM ms i x.l = true ∧ madeM ms i x.r = true ∧ wordM ws x.i = some (joinM ws x.l x.r) := by
  unfold cutM at h
  rw [hx] at h
  simp only at h
  by_cases h1 : x.i < 256 ∨ (ws.length : Int) ≤ x.i - 256 ∨ madeM ms i x.i = true
  · rw [if_pos h1] at h; cases h
  · rw [if_neg h1] at h
    by_cases h2 : madeM ms i x.l = false ∨ madeM ms i x.r = false
    · rw [if_pos h2] at h; cases h
    · rw [if_neg h2] at h
      by_cases h3 : wordM ws x.i ≠ some (joinM ws x.l x.r)
      · rw [if_pos h3] at h; cases h
      · refine ⟨by omega, by omega, by simpa using fun e => h1 (.inr (.inr e)), by simpa using fun e => h2 (.inl e), by simpa using fun e => h2 (.inr e), by simpa using h3⟩
theorem wordM_in {ws : List ByteArray} {id : Int} (h : 256 ≤ id) : wordM ws id = ws[(id - 256).toNat]? := by
  unfold wordM
  rw [if_neg (by omega), if_pos h]
theorem made_ahead {ms : List Mg} {i j : Nat} {x : Mg} (hx : ms[j]? = some x) (hj : j < i) (h : 256 ≤ x.i) : madeM ms i x.i = true := by
  unfold madeM
  rw [Bool.or_eq_true, Bool.and_eq_true, Bool.and_eq_true]
  refine .inr ⟨by simpa using h, ?_⟩
  rw [List.any_eq_true]
  refine ⟨x, ?_, by simp⟩
  rw [List.mem_iff_getElem?]
  exact ⟨j, by rw [List.getElem?_take_of_lt hj]; exact hx⟩
/-- A pair that stands twice is refused for another fault. -/
theorem badM_cut {ws : List ByteArray} {ms : List Mg} {i : Nat} (hW : WRgt ws) (hc : ∀ j, j < i → cutM ws ms j = 0) : cutM ws ms i = badM ws ms i := by
  unfold badM
  by_cases h0 : cutM ws ms i ≠ 0
  · rw [if_pos h0]
  · rw [if_neg h0]
    have h0 : cutM ws ms i = 0 := by simpa using h0
    cases hx : ms[i]? with
    | none => simpa using h0
    | some x =>
      simp only
      rw [if_neg, h0]
      intro ha
      obtain ⟨y, hy, hp⟩ := List.any_eq_true.1 ha
      obtain ⟨j, hj⟩ := List.mem_iff_getElem?.1 hy
      have hji : j < i := by
        have := (List.getElem?_eq_some_iff.1 hj).1
        simp at this; omega
      rw [List.getElem?_take_of_lt hji] at hj
      obtain ⟨a1, a2, a3, -, -, a6⟩ := cutM_zero hx h0
      obtain ⟨b1, b2, -, -, -, b6⟩ := cutM_zero hj (hc j hji)
      unfold pairB at hp
      have e1 : y.l = x.l ∧ y.r = x.r := by simpa using hp
      rw [e1.1, e1.2, ← a6, wordM_in a1, wordM_in b1] at b6
      have hlt : (x.i - 256).toNat < ws.length := by omega
      have e2 := hW.inj (List.getElem?_eq_getElem hlt) (b6.trans (List.getElem?_eq_getElem hlt))
      have e3 : x.i = y.i := by omega
      rw [e3, made_ahead hj hji b1] at a3
      cases a3
theorem first_cut {ws : List ByteArray} {ms : List Mg} (hW : WRgt ws) (n : Nat) : firstBad (cutM ws ms) n = firstBad (badM ws ms) n :=
  firstBad_congr fun _ _ hb => badM_cut hW hb
/-- The rank of a pair. -/
def rankM (ms : List Mg) (l r : Int) : Option Nat := ms.findIdx? fun x => pairB x l r
/-- The greatest number of bytes. -/
def longM (ws : List ByteArray) : Nat := ws.foldl (fun n w => if n < w.size then w.size else n) 1
theorem longM_snoc (ws : List ByteArray) (w : ByteArray) : longM (ws ++ [w]) = if longM ws < w.size then w.size else longM ws := by
  unfold longM
  rw [List.foldl_append]
  rfl
theorem longM_step (ws : List ByteArray) (k : Nat) (w : ByteArray) (h : ws[k]? = some w) : longM (ws.take (k + 1)) = if longM (ws.take k) < w.size then w.size else longM (ws.take k) := by
  rw [← longM_snoc]
  congr 1
  rw [List.take_add_one, h]
  rfl
theorem rankM_step (ms : List Mg) (k : Nat) (x : Mg) (h : ms[k]? = some x) (l r : Int) : rankM (ms.take (k + 1)) l r = match rankM (ms.take k) l r with | some i => some i | none => if pairB x l r then some k else none := by
  have e : ms.take (k + 1) = ms.take k ++ [x] := by rw [List.take_add_one, h]; rfl
  have hk : k < ms.length := (List.getElem?_eq_some_iff.1 h).1
  unfold rankM
  rw [e, List.findIdx?_append]
  cases h1 : (ms.take k).findIdx? (fun x => pairB x l r) with
  | some i => simp
  | none =>
    simp only [Option.none_or, List.findIdx?_cons, List.findIdx?_nil]
    have hl : (ms.take k).length = k := by simp; omega
    rw [hl]
    cases hp : pairB x l r <;> simp
end Go.Proofs.YtonbfcpbgkpbaaaDoor
end
section
/- Lists in memory; tesserakeep.Same: its contract. -/
namespace Go.Proofs.YtonbfcpbgkpbaaaDoor
open Go.RowKit Go.Sort Go.Joins
set_option linter.unusedVariables false
/-- A span's two cells. -/
def SpAt (w : World) (b off : Nat) (x : Sp) : Prop := w.cell? ⟨b, off, none⟩ = some (.int .i32 x.lo) ∧ w.cell? ⟨b, off + 1, none⟩ = some (.int .i32 x.hi)
theorem SpAt.below {w w' : World} {b off : Nat} {x : Sp} (h : SpAt w b off x) (hb : Below w.heap.size w w') : SpAt w' b off x :=
  ⟨(hb.cell (World.block_lt_of_cell? w _ h.1)).trans h.1, (hb.cell (World.block_lt_of_cell? w _ h.2)).trans h.2⟩
/-- The slice that begins at a holds the spans l. -/
def SPS (w : World) (a : Option Addr) (l : List Sp) : Prop :=
  l = [] ∨ ∃ b off, a = some ⟨b, off, none⟩ ∧ ∀ i x, l[i]? = some x → SpAt w b (off + i * 2) x
theorem SPS.below {w w' : World} {a : Option Addr} {l : List Sp} (h : SPS w a l) (hb : Below w.heap.size w w') : SPS w' a l := by
  rcases h with h | ⟨b, off, rfl, hc⟩
  · exact .inl h
  · exact .inr ⟨b, off, rfl, fun i x hx => (hc i x hx).below hb⟩
theorem cell_alloc_s {w : World} {a : Addr} {v : Value} (h : w.cell? a = some v) (o : Obj) : (w.alloc o).cell? a = some v :=
  (((Below.refl w.heap.size w).alloc (Nat.le_refl _) o).cell (World.block_lt_of_cell? w _ h)).trans h
def fLo : Field := Field.mk "Lo" 21 0 false "" "" 0
def fHi : Field := Field.mk "Hi" 21 1 false "" "" 4
theorem fields26 : Tryd.prog.fieldsOf 31 = #[fLo, fHi] := by kernel_rfl
theorem und26 : Tryd.prog.underlying 31 = some (.struct #[fLo, fHi]) := by kernel_rfl
theorem held26 : Tryd.prog.stoodInHeld 31 = false := by kernel_rfl
def spEq (x y : Sp) : Bool := x.lo == y.lo && x.hi == y.hi
theorem equal_sp (a b c d : Int) (W : World) : (Op.equalIn 10000 31 (.agg #[.int .i32 a, .int .i32 b]) (.agg #[.int .i32 c, .int .i32 d])).run Tryd.prog W = .ok (a == c && b == d) W := by
  rw [run_equalIn_agg W 9999 31 _ _ (by rw [fields26]; exact und26) held26, fields26]
  simp [go_sem, Op.eqFields, fLo, fHi, part]
  by_cases h1 : a = c
  · by_cases h2 : b = d
    · simp [h1, h2]
    · simp [h1, h2]
  · simp [h1]
theorem neq_sp (x y : Sp) (v : Bool) (h : (!spEq x y) = v) (W : World) : (binOp BinOp.neq 31 (.agg #[.int .i32 x.lo, .int .i32 x.hi]) (.agg #[.int .i32 y.lo, .int .i32 y.hi])).run Tryd.prog W = .ok (.bool v) W := by
  rw [run_neq_struct, equal_sp, ← h]
  rfl
theorem eqIn_sp (x y : Sp) (v : Bool) (h : spEq x y = v) (W : World) : (Op.equalIn 10000 31 (.agg #[.int .i32 x.lo, .int .i32 x.hi]) (.agg #[.int .i32 y.lo, .int .i32 y.hi])).run Tryd.prog W = .ok v W := by
  rw [equal_sp, ← h]
  rfl
theorem spEq_self (x : Sp) : spEq x x = true := by simp [spEq]
/-- A list's cells. -/
def cellsS (l : List Sp) : List Value := l.flatMap fun x => [.int .i32 x.lo, .int .i32 x.hi]
theorem cellsS_length (l : List Sp) : (cellsS l).length = l.length * 2 := by
  induction l with
  | nil => rfl
  | cons x l ih => simp only [cellsS, List.flatMap_cons, List.length_append, List.length_cons] at ih ⊢; rw [ih]; simp; omega
theorem cellsS_get (l : List Sp) (i : Nat) (x : Sp) (h : l[i]? = some x) : (cellsS l)[i * 2]? = some (.int .i32 x.lo) ∧ (cellsS l)[i * 2 + 1]? = some (.int .i32 x.hi) := by
  induction l generalizing i with
  | nil => simp at h
  | cons y l ih =>
    cases i with
    | zero =>
      have : y = x := by simpa using h
      subst this
      exact ⟨rfl, rfl⟩
    | succ i =>
      have := ih i (by simpa using h)
      have e : cellsS (y :: l) = .int .i32 y.lo :: .int .i32 y.hi :: cellsS l := rfl
      rw [e, show (i + 1) * 2 = i * 2 + 1 + 1 by omega, show i * 2 + 1 + 1 + 1 = i * 2 + 1 + 1 + 1 from rfl]
      simpa using this
theorem SPS.of_block {w : World} {g : Nat} {l r : List Sp} {t : TypeId} {fr : Nat × Nat} (h : w.heap[g]? = some (.cells (cellsS (l ++ r)).toArray t fr)) : SPS w (some ⟨g, 0, none⟩) l := by
  refine .inr ⟨g, 0, rfl, fun i x hx => ?_⟩
  have hx' : (l ++ r)[i]? = some x := by
    rw [List.getElem?_append_left (List.getElem?_eq_some_iff.1 hx).1]; exact hx
  obtain ⟨h0, h1⟩ := cellsS_get _ _ _ hx'
  refine ⟨?_, ?_⟩ <;> rw [cell_of_block h, Nat.zero_add] <;> simpa
theorem SPS.new (w : World) (l : List Sp) (t : TypeId) : SPS (w.alloc (.cells (cellsS l).toArray t)) (some ⟨w.heap.size, 0, none⟩) l :=
  SPS.of_block (r := []) (by rw [List.append_nil]; exact heap_alloc_new _ _)
/-- No span but those from lo on, m of them, can hold r. -/
def Left (l : List Sp) (r : Int) (lo m : Nat) : Prop := ∀ (i : Nat) (x : Sp), l[i]? = some x → (i < lo ∨ lo + m ≤ i) → ¬ (x.lo ≤ r ∧ r ≤ x.hi)
/-- The slice that begins at a holds the words l. -/
def WSP (w : World) (a : Option Addr) (l : List ByteArray) : Prop :=
  l = [] ∨ ∃ b off, a = some ⟨b, off, none⟩ ∧ ∀ i x, l[i]? = some x → w.cell? ⟨b, off + i, none⟩ = some (.string x)
theorem WSP.below {w w' : World} {a : Option Addr} {l : List ByteArray} (h : WSP w a l) (hb : Below w.heap.size w w') : WSP w' a l := by
  rcases h with h | ⟨b, off, rfl, hc⟩
  · exact .inl h
  · exact .inr ⟨b, off, rfl, fun i x hx => (hb.cell (World.block_lt_of_cell? w _ (hc i x hx))).trans (hc i x hx)⟩
/-- A merge's three cells. -/
def MgAt (w : World) (b off : Nat) (x : Mg) : Prop := w.cell? ⟨b, off, none⟩ = some (.int .i64 x.l) ∧ w.cell? ⟨b, off + 1, none⟩ = some (.int .i64 x.r) ∧ w.cell? ⟨b, off + 2, none⟩ = some (.int .i64 x.i)
theorem MgAt.below {w w' : World} {b off : Nat} {x : Mg} (h : MgAt w b off x) (hb : Below w.heap.size w w') : MgAt w' b off x :=
  ⟨(hb.cell (World.block_lt_of_cell? w _ h.1)).trans h.1, (hb.cell (World.block_lt_of_cell? w _ h.2.1)).trans h.2.1, (hb.cell (World.block_lt_of_cell? w _ h.2.2)).trans h.2.2⟩
/-- The slice that begins at a holds the merges l. -/
def MSP (w : World) (a : Option Addr) (l : List Mg) : Prop :=
  l = [] ∨ ∃ b off, a = some ⟨b, off, none⟩ ∧ ∀ i x, l[i]? = some x → MgAt w b (off + i * 3) x
theorem MSP.below {w w' : World} {a : Option Addr} {l : List Mg} (h : MSP w a l) (hb : Below w.heap.size w w') : MSP w' a l := by
  rcases h with h | ⟨b, off, rfl, hc⟩
  · exact .inl h
  · exact .inr ⟨b, off, rfl, fun i x hx => (hc i x hx).below hb⟩
/-- A block that holds data. -/
def DBox (w : World) (z : Nat) (v0 v1 v2 v3 v4 : Value) : Prop := w.heap[z]? = some (.cells #[v0, v1, v2, v3, v4] 26 (0, 0))
theorem DBox.new (w : World) (v0 v1 v2 v3 v4 : Value) : DBox (w.alloc (.cells #[v0, v1, v2, v3, v4] 26)) w.heap.size v0 v1 v2 v3 v4 := heap_alloc_new _ _
theorem DBox.lt {w : World} {z : Nat} {v0 v1 v2 v3 v4 : Value} (h : DBox w z v0 v1 v2 v3 v4) : z < w.heap.size := (Array.getElem?_eq_some_iff.1 h).1
theorem DBox.below {w w' : World} {z B : Nat} {v0 v1 v2 v3 v4 : Value} (h : DBox w z v0 v1 v2 v3 v4) (hb : Below B w w') (hz : z < B) : DBox w' z v0 v1 v2 v3 v4 := (hb.block z hz).trans h
theorem DBox.c0 {w : World} {z : Nat} {v0 v1 v2 v3 v4 : Value} (h : DBox w z v0 v1 v2 v3 v4) : w.cell? ⟨z, 0, none⟩ = some v0 := cell_of_block h 0
theorem DBox.c1 {w : World} {z : Nat} {v0 v1 v2 v3 v4 : Value} (h : DBox w z v0 v1 v2 v3 v4) : w.cell? ⟨z, 1, none⟩ = some v1 := cell_of_block h 1
theorem DBox.c2 {w : World} {z : Nat} {v0 v1 v2 v3 v4 : Value} (h : DBox w z v0 v1 v2 v3 v4) : w.cell? ⟨z, 2, none⟩ = some v2 := cell_of_block h 2
theorem DBox.c3 {w : World} {z : Nat} {v0 v1 v2 v3 v4 : Value} (h : DBox w z v0 v1 v2 v3 v4) : w.cell? ⟨z, 3, none⟩ = some v3 := cell_of_block h 3
theorem DBox.c4 {w : World} {z : Nat} {v0 v1 v2 v3 v4 : Value} (h : DBox w z v0 v1 v2 v3 v4) : w.cell? ⟨z, 4, none⟩ = some v4 := cell_of_block h 4
theorem box_below (w : World) (o : Obj) : Below w.heap.size w (w.alloc o) := (Below.refl _ _).alloc (Nat.le_refl _) _
theorem SPS.cells {w : World} {x : Addr} {l : List Sp} (h : SPS w (some x) l) : ∀ j u, (cellsS l)[j]? = some u → w.cell? (x.add j) = some u := by
  intro j u hu
  rcases h with rfl | ⟨b, off, hx, hc⟩
  · simp [cellsS] at hu
  · obtain rfl := Option.some.inj hx
    have hj : j < (cellsS l).length := (List.getElem?_eq_some_iff.1 hu).1
    rw [cellsS_length] at hj
    have hi : l[j / 2]? = some l[j / 2] := List.getElem?_eq_getElem (by omega)
    obtain ⟨g0, g1⟩ := cellsS_get _ _ _ hi
    obtain ⟨c0, c1⟩ := hc _ _ hi
    rw [Go.WideShapes.add_plain]
    rcases Nat.mod_two_eq_zero_or_one j with e | e
    · have ej : j = j / 2 * 2 := by omega
      rw [ej, g0] at hu
      rw [ej, c0]
      exact hu
    · have ej : j = j / 2 * 2 + 1 := by omega
      rw [ej, g1] at hu
      rw [ej, ← Nat.add_assoc, c1]
      exact hu
set_option maxHeartbeats 800000 in
/-- Of two slices that hold the same spans, Same says so. -/
theorem same_any (a b : Option Addr) (ca cb : Nat) (l : List Sp) (w : World) (hlen : l.length ≤ 9223372036854775807) (ha : SPS w a l) (hb : SPS w b l) :
    Calls Tryd.prog 26 #[.slice a l.length ca, .slice b l.length cb] w fun e w' => e = .returned (.bool true) ∧ Below w.heap.size w w' := by
  obtain ⟨n, hn⟩ : ∃ n, n = l.length := ⟨_, rfl⟩
  have HN : Hid (n = l.length) := hn
  rw [← hn] at hlen ⊢
  clear hn
  have hne : ((n : Int) != (n : Int)) = false := by simp
  go_enter Tryd.func26, Tryd.ntmps26
  go_wp2
  go_loopw [5] (fun i wr => ∃ k : Nat, k ≤ n ∧ i = .int .i64 k ∧ Below w.heap.size w wr) (fun i _ => n - (intOf i).toNat)
  case atStart => exact ⟨0, Nat.zero_le _, rfl, Below.refl _ _⟩
  case round =>
    obtain ⟨k, hk, rfl, hbr⟩ := hrel
    by_cases hlt : k < n
    · have hkl : k < l.length := by rw [← HN.out]; exact hlt
      have hnil : l ≠ [] := fun e => by rw [e] at hkl; simp at hkl
      rcases ha with h | ⟨ga, oa, rfl, ha⟩
      · exact absurd h hnil
      rcases hb with h | ⟨gb, ob, rfl, hb⟩
      · exact absurd h hnil
      obtain ⟨x, hx⟩ : ∃ x, l[k]? = some x := ⟨l[k], List.getElem?_eq_getElem hkl⟩
      obtain ⟨a0, a1⟩ := (ha k x hx).below hbr
      obtain ⟨b0, b1⟩ := (hb k x hx).below hbr
      have HE := eqIn_sp x x true (spEq_self x)
      have HF := neq_sp x x false (by rw [spEq_self]; rfl)
      clear ha hb hnil hkl hx
      go_wp2_with fail
      go_quiet (fail)
      go_wp2_with fail
      exact ⟨⟨k + 1, by omega, by go_num, below_drewN hbr nq⟩, by simp only [intOf]; omega⟩
    · have hkn : k = n := by omega
      subst hkn
      go_wp2_with fail
      go_ret
      exact ⟨rfl, hbr⟩
/-- The cells of words. -/
def cellsW (l : List ByteArray) : List Value := l.map Value.string
theorem cellsW_length (l : List ByteArray) : (cellsW l).length = l.length * 1 := by simp [cellsW]
theorem cellsW_get {l : List ByteArray} {i : Nat} {x : ByteArray} (h : l[i]? = some x) : (cellsW l)[i]? = some (.string x) := by simp [cellsW, h]
/-- The cells of merges. -/
def cellsM (l : List Mg) : List Value := l.flatMap fun x => [.int .i64 x.l, .int .i64 x.r, .int .i64 x.i]
theorem cellsM_length (l : List Mg) : (cellsM l).length = l.length * 3 := by
  induction l with
  | nil => rfl
  | cons x l ih => simp only [cellsM, List.flatMap_cons, List.length_append, List.length_cons] at ih ⊢; rw [ih]; simp; omega
theorem cellsM_get (l : List Mg) (i : Nat) (x : Mg) (h : l[i]? = some x) : (cellsM l)[i * 3]? = some (.int .i64 x.l) ∧ (cellsM l)[i * 3 + 1]? = some (.int .i64 x.r) ∧ (cellsM l)[i * 3 + 2]? = some (.int .i64 x.i) := by
  induction l generalizing i with
  | nil => simp at h
  | cons y l ih =>
    cases i with
    | zero =>
      have : y = x := by simpa using h
      subst this
      exact ⟨rfl, rfl, rfl⟩
    | succ i =>
      have := ih i (by simpa using h)
      have e : cellsM (y :: l) = .int .i64 y.l :: .int .i64 y.r :: .int .i64 y.i :: cellsM l := rfl
      rw [e, show (i + 1) * 3 = i * 3 + 1 + 1 + 1 by omega, show i * 3 + 1 + 1 + 1 + 1 = (i * 3 + 1) + 1 + 1 + 1 from rfl, show i * 3 + 1 + 1 + 1 + 2 = (i * 3 + 2) + 1 + 1 + 1 from rfl]
      simpa using this
theorem WSP.cells {w : World} {x : Addr} {l : List ByteArray} (h : WSP w (some x) l) : ∀ j u, (cellsW l)[j]? = some u → w.cell? (x.add j) = some u := by
  intro j u hu
  rcases h with rfl | ⟨b, off, hx, hc⟩
  · simp [cellsW] at hu
  · obtain rfl := Option.some.inj hx
    have hj : j < l.length := by have := (List.getElem?_eq_some_iff.1 hu).1; rw [cellsW_length] at this; omega
    have hi : l[j]? = some l[j] := List.getElem?_eq_getElem hj
    rw [cellsW_get hi] at hu
    rw [Go.WideShapes.add_plain, hc j _ hi]
    exact hu
theorem MSP.cells {w : World} {x : Addr} {l : List Mg} (h : MSP w (some x) l) : ∀ j u, (cellsM l)[j]? = some u → w.cell? (x.add j) = some u := by
  intro j u hu
  rcases h with rfl | ⟨b, off, hx, hc⟩
  · simp [cellsM] at hu
  · obtain rfl := Option.some.inj hx
    have hj : j < (cellsM l).length := (List.getElem?_eq_some_iff.1 hu).1
    rw [cellsM_length] at hj
    have hi : l[j / 3]? = some l[j / 3] := List.getElem?_eq_getElem (by omega)
    obtain ⟨g0, g1, g2⟩ := cellsM_get _ _ _ hi
    obtain ⟨c0, c1, c2⟩ := hc _ _ hi
    rw [Go.WideShapes.add_plain]
    have h3 : j % 3 = 0 ∨ j % 3 = 1 ∨ j % 3 = 2 := by omega
    rcases h3 with e | e | e
    · have ej : j = j / 3 * 3 := by omega
      rw [ej, g0] at hu
      rw [ej, c0]
      exact hu
    · have ej : j = j / 3 * 3 + 1 := by omega
      rw [ej, g1] at hu
      rw [ej, ← Nat.add_assoc, c1]
      exact hu
    · have ej : j = j / 3 * 3 + 2 := by omega
      rw [ej, g2] at hu
      rw [ej, ← Nat.add_assoc, c2]
      exact hu
def But (b B : Nat) (W W' : World) : Prop := W'.os = W.os ∧ W'.tape = W.tape ∧ W'.output = W.output ∧ W.heap.size ≤ W'.heap.size ∧ ∀ k, k < B → k ≠ b → W'.heap[k]? = W.heap[k]?
theorem But.refl (b B : Nat) (W : World) : But b B W W := ⟨rfl, rfl, rfl, Nat.le_refl _, fun _ _ _ => rfl⟩
theorem But.of_below {b B : Nat} {W W' : World} (h : Below B W W') : But b B W W' := ⟨h.os, h.tape, h.output, h.size, fun k hk _ => h.block k hk⟩
theorem But.trans {b B : Nat} {X Y Z : World} (h : But b B X Y) (k : But b B Y Z) : But b B X Z := ⟨k.1.trans h.1, k.2.1.trans h.2.1, k.2.2.1.trans h.2.2.1, Nat.le_trans h.2.2.2.1 k.2.2.2.1, fun i hi hb => (k.2.2.2.2 i hi hb).trans (h.2.2.2.2 i hi hb)⟩
theorem But.setCell {b B : Nat} {W W' : World} (h : But b B W W') (j : Nat) (v : Value) : But b B W (W'.setCell ⟨b, j, none⟩ v) := ⟨h.1, h.2.1, h.2.2.1, by simpa using h.2.2.2.1, fun k hk hb => (Below.heap_setCell _ _ _ k hb).trans (h.2.2.2.2 k hk hb)⟩
theorem But.below {b B B' : Nat} {W W' : World} (h : But b B W W') (hB : B' ≤ B) (hb : B' ≤ b) : Below B' W W' := ⟨h.1, h.2.1, h.2.2.1, h.2.2.2.1, fun k hk => h.2.2.2.2 k (by omega) (by omega)⟩
theorem But.size {b B : Nat} {W W' : World} (h : But b B W W') : W.heap.size ≤ W'.heap.size := h.2.2.2.1
theorem But.mono {b B B' : Nat} {W W' : World} (h : But b B W W') (hB : B' ≤ B) : But b B' W W' := ⟨h.1, h.2.1, h.2.2.1, h.2.2.2.1, fun k hk hb => h.2.2.2.2 k (by omega) hb⟩
theorem But.above {b B : Nat} {W W' : World} (h : But b B W W') {p : Addr} (hp : B ≤ p.block) (v : Value) : But b B W (W'.setCell p v) := ⟨h.1, h.2.1, h.2.2.1, by simpa using h.2.2.2.1, fun k hk hb => (Below.heap_setCell _ _ _ k (by omega)).trans (h.2.2.2.2 k hk hb)⟩
theorem WSP.new (w : World) (l : List ByteArray) (t : TypeId) : WSP (w.alloc (.cells (cellsW l).toArray t)) (some ⟨w.heap.size, 0, none⟩) l := by
  refine .inr ⟨w.heap.size, 0, rfl, fun i x hx => ?_⟩
  rw [cell_of_block (heap_alloc_new _ _), Nat.zero_add]
  simpa using cellsW_get hx
theorem MSP.new (w : World) (l : List Mg) (t : TypeId) : MSP (w.alloc (.cells (cellsM l).toArray t)) (some ⟨w.heap.size, 0, none⟩) l := by
  refine .inr ⟨w.heap.size, 0, rfl, fun i x hx => ?_⟩
  obtain ⟨h0, h1, h2⟩ := cellsM_get l i x hx
  unfold MgAt
  rw [cell_of_block (heap_alloc_new _ _), cell_of_block (heap_alloc_new _ _), cell_of_block (heap_alloc_new _ _), Nat.zero_add]
  exact ⟨by simpa using h0, by simpa using h1, by simpa using h2⟩
set_option maxHeartbeats 800000 in
/-- Of two slices that hold the same words, Same says so. -/
theorem sameW_any (a b : Option Addr) (ca cb : Nat) (l : List ByteArray) (w : World) (hlen : l.length ≤ 9223372036854775807) (ha : WSP w a l) (hb : WSP w b l) :
    Calls Tryd.prog 24 #[.slice a l.length ca, .slice b l.length cb] w fun e w' => e = .returned (.bool true) ∧ Below w.heap.size w w' := by
  obtain ⟨n, hn⟩ : ∃ n, n = l.length := ⟨_, rfl⟩
  have HN : Hid (n = l.length) := hn
  rw [← hn] at hlen ⊢
  clear hn
  have hne : ((n : Int) != (n : Int)) = false := by simp
  go_enter Tryd.func24, Tryd.ntmps24
  go_wp2
  go_loopw [5] (fun i wr => ∃ k : Nat, k ≤ n ∧ i = .int .i64 k ∧ Below w.heap.size w wr) (fun i _ => n - (intOf i).toNat)
  case atStart => exact ⟨0, Nat.zero_le _, rfl, Below.refl _ _⟩
  case round =>
    obtain ⟨k, hk, rfl, hbr⟩ := hrel
    by_cases hlt : k < n
    · have hkl : k < l.length := by rw [← HN.out]; exact hlt
      have hnil : l ≠ [] := fun e => by rw [e] at hkl; simp at hkl
      rcases ha with h | ⟨ga, oa, rfl, ha⟩
      · exact absurd h hnil
      rcases hb with h | ⟨gb, ob, rfl, hb⟩
      · exact absurd h hnil
      obtain ⟨x, hx⟩ : ∃ x, l[k]? = some x := ⟨l[k], List.getElem?_eq_getElem hkl⟩
      have a0 := (hbr.cell (World.block_lt_of_cell? w _ (ha k x hx))).trans (ha k x hx)
      have b0 := (hbr.cell (World.block_lt_of_cell? w _ (hb k x hx))).trans (hb k x hx)
      have HE : (x.toList == x.toList) = true := by simp
      have HF : (x.toList != x.toList) = false := by simp
      clear ha hb hnil hkl hx
      go_wp2_with fail
      go_quiet (fail)
      go_wp2_with fail
      exact ⟨⟨k + 1, by omega, by go_num, below_drewN hbr nq⟩, by simp only [intOf]; omega⟩
    · have hkn : k = n := by omega
      subst hkn
      go_wp2_with fail
      go_ret
      exact ⟨rfl, hbr⟩
theorem MgAt.new (w : World) (m : Mg) (t : TypeId) : MgAt (w.alloc (.cells #[.int .i64 m.l, .int .i64 m.r, .int .i64 m.i] t)) w.heap.size 0 m := ⟨by simp [go_sem], by simp [go_sem], by simp [go_sem]⟩
def gL : Field := Field.mk "Left" 3 0 false "" "" 0
def gR : Field := Field.mk "Right" 3 1 false "" "" 8
def gI : Field := Field.mk "Id" 3 2 false "" "" 16
theorem fieldsM : Tryd.prog.fieldsOf 52 = #[gL, gR, gI] := by kernel_rfl
theorem undM : Tryd.prog.underlying 52 = some (.struct #[gL, gR, gI]) := by kernel_rfl
theorem heldM : Tryd.prog.stoodInHeld 52 = false := by kernel_rfl
def mgEq (x y : Mg) : Bool := x.l == y.l && (x.r == y.r && x.i == y.i)
theorem mgEq_self (x : Mg) : mgEq x x = true := by simp [mgEq]
theorem equal_mg (a b c a' b' c' : Int) (W : World) : (Op.equalIn 10000 52 (.agg #[.int .i64 a, .int .i64 b, .int .i64 c]) (.agg #[.int .i64 a', .int .i64 b', .int .i64 c'])).run Tryd.prog W = .ok (a == a' && (b == b' && c == c')) W := by
  rw [run_equalIn_agg W 9999 52 _ _ (by rw [fieldsM]; exact undM) heldM, fieldsM]
  simp [go_sem, Op.eqFields, gL, gR, gI, part]
  by_cases h1 : a = a'
  · by_cases h2 : b = b'
    · by_cases h3 : c = c'
      · simp [h1, h2, h3]
      · simp [h1, h2, h3]
    · simp [h1, h2]
  · simp [h1]
theorem neq_mg (x y : Mg) (v : Bool) (h : (!mgEq x y) = v) (W : World) : (binOp BinOp.neq 52 (.agg #[.int .i64 x.l, .int .i64 x.r, .int .i64 x.i]) (.agg #[.int .i64 y.l, .int .i64 y.r, .int .i64 y.i])).run Tryd.prog W = .ok (.bool v) W := by
  rw [run_neq_struct, equal_mg, ← h]
  rfl
theorem eqIn_mg (x y : Mg) (v : Bool) (h : mgEq x y = v) (W : World) : (Op.equalIn 10000 52 (.agg #[.int .i64 x.l, .int .i64 x.r, .int .i64 x.i]) (.agg #[.int .i64 y.l, .int .i64 y.r, .int .i64 y.i])).run Tryd.prog W = .ok v W := by
  rw [equal_mg, ← h]
  rfl
theorem MSP.of_block {w : World} {g : Nat} {l r : List Mg} {t : TypeId} {fr : Nat × Nat} (h : w.heap[g]? = some (.cells (cellsM (l ++ r)).toArray t fr)) : MSP w (some ⟨g, 0, none⟩) l := by
  refine .inr ⟨g, 0, rfl, fun i x hx => ?_⟩
  have hx' : (l ++ r)[i]? = some x := by
    rw [List.getElem?_append_left (List.getElem?_eq_some_iff.1 hx).1]; exact hx
  obtain ⟨h0, h1, h2⟩ := cellsM_get _ _ _ hx'
  unfold MgAt
  rw [cell_of_block h, cell_of_block h, cell_of_block h, Nat.zero_add]
  exact ⟨by simpa using h0, by simpa using h1, by simpa using h2⟩
set_option maxHeartbeats 800000 in
/-- Of two slices that hold the same merges, Same says so. -/
theorem sameM_any (a b : Option Addr) (ca cb : Nat) (l : List Mg) (w : World) (hlen : l.length ≤ 9223372036854775807) (ha : MSP w a l) (hb : MSP w b l) :
    Calls Tryd.prog 25 #[.slice a l.length ca, .slice b l.length cb] w fun e w' => e = .returned (.bool true) ∧ Below w.heap.size w w' := by
  obtain ⟨n, hn⟩ : ∃ n, n = l.length := ⟨_, rfl⟩
  have HN : Hid (n = l.length) := hn
  rw [← hn] at hlen ⊢
  clear hn
  have hne : ((n : Int) != (n : Int)) = false := by simp
  go_enter Tryd.func25, Tryd.ntmps25
  go_wp2
  go_loopw [5] (fun i wr => ∃ k : Nat, k ≤ n ∧ i = .int .i64 k ∧ Below w.heap.size w wr) (fun i _ => n - (intOf i).toNat)
  case atStart => exact ⟨0, Nat.zero_le _, rfl, Below.refl _ _⟩
  case round =>
    obtain ⟨k, hk, rfl, hbr⟩ := hrel
    by_cases hlt : k < n
    · have hkl : k < l.length := by rw [← HN.out]; exact hlt
      have hnil : l ≠ [] := fun e => by rw [e] at hkl; simp at hkl
      rcases ha with h | ⟨ga, oa, rfl, ha⟩
      · exact absurd h hnil
      rcases hb with h | ⟨gb, ob, rfl, hb⟩
      · exact absurd h hnil
      obtain ⟨x, hx⟩ : ∃ x, l[k]? = some x := ⟨l[k], List.getElem?_eq_getElem hkl⟩
      obtain ⟨a0, a1, a2⟩ := (ha k x hx).below hbr
      obtain ⟨b0, b1, b2⟩ := (hb k x hx).below hbr
      have HE := eqIn_mg x x true (mgEq_self x)
      have HF := neq_mg x x false (by rw [mgEq_self]; rfl)
      clear ha hb hnil hkl hx
      go_wp2_with fail
      go_quiet (fail)
      go_wp2_with fail
      exact ⟨⟨k + 1, by omega, by go_num, below_drewN hbr nq⟩, by simp only [intOf]; omega⟩
    · have hkn : k = n := by omega
      subst hkn
      go_wp2_with fail
      go_ret
      exact ⟨rfl, hbr⟩
set_option maxRecDepth 100000 in
set_option maxHeartbeats 2000000 in
theorem keepSame_any (a0 a1 a2 a3 a4 b0 b1 b2 b3 b4 : Option Addr) (c0 c1 c2 c3 c4 d0 d1 d2 d3 d4 : Nat) (ws : List ByteArray) (ms : List Mg) (A B C : List Sp) (w : World) (hn : ws.length ≤ 4611686018427387904 ∧ ms.length ≤ 4611686018427387904 ∧ A.length ≤ 4611686018427387904 ∧ B.length ≤ 4611686018427387904 ∧ C.length ≤ 4611686018427387904)
    (h0 : WSP w a0 ws) (h1 : MSP w a1 ms) (h2 : SPS w a2 A) (h3 : SPS w a3 B) (h4 : SPS w a4 C) (k0 : WSP w b0 ws) (k1 : MSP w b1 ms) (k2 : SPS w b2 A) (k3 : SPS w b3 B) (k4 : SPS w b4 C) :
    Calls Tryd.prog 10 #[.agg #[.slice a0 ws.length c0, .slice a1 ms.length c1, .slice a2 A.length c2, .slice a3 B.length c3, .slice a4 C.length c4], .agg #[.slice b0 ws.length d0, .slice b1 ms.length d1, .slice b2 A.length d2, .slice b3 B.length d3, .slice b4 C.length d4]] w fun e w' => e = .returned (.bool true) ∧ Below w.heap.size w w' := by
  have hX := DBox.new w (.slice a0 ws.length c0) (.slice a1 ms.length c1) (.slice a2 A.length c2) (.slice a3 B.length c3) (.slice a4 C.length c4)
  have bX := box_below w (.cells #[.slice a0 ws.length c0, .slice a1 ms.length c1, .slice a2 A.length c2, .slice a3 B.length c3, .slice a4 C.length c4] 26)
  obtain ⟨X, eX⟩ : ∃ X, X = w.alloc (.cells #[.slice a0 ws.length c0, .slice a1 ms.length c1, .slice a2 A.length c2, .slice a3 B.length c3, .slice a4 C.length c4] 26) := ⟨_, rfl⟩
  have sX : X.heap.size = w.heap.size + 1 := by rw [eX]; simp
  rw [← eX] at hX bX
  have hY := DBox.new X (.slice b0 ws.length d0) (.slice b1 ms.length d1) (.slice b2 A.length d2) (.slice b3 B.length d3) (.slice b4 C.length d4)
  have bY := box_below X (.cells #[.slice b0 ws.length d0, .slice b1 ms.length d1, .slice b2 A.length d2, .slice b3 B.length d3, .slice b4 C.length d4] 26)
  have hX2 := hX.below bY hX.lt
  have bZ := bX.trans (bY.mono bX.size)
  rw [sX] at hY
  obtain ⟨Y, eY⟩ : ∃ Y, Y = X.alloc (.cells #[.slice b0 ws.length d0, .slice b1 ms.length d1, .slice b2 A.length d2, .slice b3 B.length d3, .slice b4 C.length d4] 26) := ⟨_, rfl⟩
  rw [← eY] at hY bY hX2 bZ
  have e2 : (w.alloc (.cells #[.slice a0 ws.length c0, .slice a1 ms.length c1, .slice a2 A.length c2, .slice a3 B.length c3, .slice a4 C.length c4] 26)).alloc (.cells #[.slice b0 ws.length d0, .slice b1 ms.length d1, .slice b2 A.length d2, .slice b3 B.length d3, .slice b4 C.length d4] 26) = Y := by rw [eY, eX]
  have E2 : Hid (_ = Y) := e2
  have HX : Hid (DBox Y w.heap.size (.slice a0 ws.length c0) (.slice a1 ms.length c1) (.slice a2 A.length c2) (.slice a3 B.length c3) (.slice a4 C.length c4)) := hX2
  have HY : Hid (DBox Y (w.heap.size + 1) (.slice b0 ws.length d0) (.slice b1 ms.length d1) (.slice b2 A.length d2) (.slice b3 B.length d3) (.slice b4 C.length d4)) := hY
  have S0 := fun wx (hb : Below w.heap.size w wx) => sameW_any a0 b0 c0 d0 ws wx (by omega) (h0.below hb) (k0.below hb)
  have S1 := fun wx (hb : Below w.heap.size w wx) => sameM_any a1 b1 c1 d1 ms wx (by omega) (h1.below hb) (k1.below hb)
  have S2 := fun wx (hb : Below w.heap.size w wx) => same_any a2 b2 c2 d2 A wx (by omega) (h2.below hb) (k2.below hb)
  have S3 := fun wx (hb : Below w.heap.size w wx) => same_any a3 b3 c3 d3 B wx (by omega) (h3.below hb) (k3.below hb)
  have S4 := fun wx (hb : Below w.heap.size w wx) => same_any a4 b4 c4 d4 C wx (by omega) (h4.below hb) (k4.below hb)
  have u0 := cell_alloc_s hX.c0
  have u1 := cell_alloc_s hX.c1
  clear u0 u1 h0 h1 h2 h3 h4 k0 k1 k2 k3 k4 hX bX bY eY eX e2 hX2 hY sX
  go_enter Tryd.func10, Tryd.ntmps10
  go_wp2_with fail
  rw [E2.out]
  clear E2
  have go : ∀ wx, Below Y.heap.size Y wx → DBox wx w.heap.size (.slice a0 ws.length c0) (.slice a1 ms.length c1) (.slice a2 A.length c2) (.slice a3 B.length c3) (.slice a4 C.length c4) ∧ DBox wx (w.heap.size + 1) (.slice b0 ws.length d0) (.slice b1 ms.length d1) (.slice b2 A.length d2) (.slice b3 B.length d3) (.slice b4 C.length d4) := fun wx hb => ⟨HX.out.below hb HX.out.lt, HY.out.below hb HY.out.lt⟩
  have GO : Hid (∀ wx, Below Y.heap.size Y wx → DBox wx w.heap.size (.slice a0 ws.length c0) (.slice a1 ms.length c1) (.slice a2 A.length c2) (.slice a3 B.length c3) (.slice a4 C.length c4) ∧ DBox wx (w.heap.size + 1) (.slice b0 ws.length d0) (.slice b1 ms.length d1) (.slice b2 A.length d2) (.slice b3 B.length d3) (.slice b4 C.length d4)) := go
  clear go
  refine (S0 Y bZ).mono ?_
  rintro e w1 ⟨rfl, hb1⟩
  have B1 := hb1
  have t1 := (GO.out w1 B1).1.c1
  have t2 := (GO.out w1 B1).2.c1
  clear S0 hb1
  go_wp2_with fail
  refine (S1 w1 (bZ.trans (B1.mono bZ.size))).mono ?_
  rintro e w2 ⟨rfl, hb2⟩
  have B2 := B1.trans (hb2.mono B1.size)
  clear t1 t2 S1 hb2 B1
  have t1 := (GO.out w2 B2).1.c2
  have t2 := (GO.out w2 B2).2.c2
  go_wp2_with fail
  refine (S2 w2 (bZ.trans (B2.mono bZ.size))).mono ?_
  rintro e w3 ⟨rfl, hb3⟩
  have B3 := B2.trans (hb3.mono B2.size)
  clear t1 t2 S2 hb3 B2
  have t1 := (GO.out w3 B3).1.c3
  have t2 := (GO.out w3 B3).2.c3
  go_wp2_with fail
  refine (S3 w3 (bZ.trans (B3.mono bZ.size))).mono ?_
  rintro e w4 ⟨rfl, hb4⟩
  have B4 := B3.trans (hb4.mono B3.size)
  clear t1 t2 S3 hb4 B3
  have t1 := (GO.out w4 B4).1.c4
  have t2 := (GO.out w4 B4).2.c4
  go_wp2_with fail
  refine (S4 w4 (bZ.trans (B4.mono bZ.size))).mono ?_
  rintro e w5 ⟨rfl, hb5⟩
  have B5 := B4.trans (hb5.mono B4.size)
  clear t1 t2 S4 hb5 B4
  go_wp2_with fail
  go_ret
  exact ⟨rfl, bZ.trans (B5.mono bZ.size)⟩
end Go.Proofs.YtonbfcpbgkpbaaaDoor
end
