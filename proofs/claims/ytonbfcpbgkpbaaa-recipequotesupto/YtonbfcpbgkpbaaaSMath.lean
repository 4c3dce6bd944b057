/- Spans: what they are, and what is asked of them: the mathematics. -/
import Derived.Test.YtonbfcpbgkpbaaaProg
namespace Go.Proofs.Ytonbfcpbgkpbaaa
/-- A span. -/
structure Sp where
  lo : Int
  hi : Int
/-- Is it a scalar value? -/
def runeB (r : Int) : Bool := decide (0 ≤ r) && decide (r ≤ 1114111) && (decide (r < 55296) || decide (57343 < r))
theorem runeB_iff (r : Int) : runeB r = true ↔ 0 ≤ r ∧ r ≤ 1114111 ∧ (r < 55296 ∨ 57343 < r) := by
  simp [runeB, and_assoc]
/-- What two spans have in common. -/
def comL (x y : Sp) : Sp := if min x.hi y.hi < max x.lo y.lo then ⟨0, -1⟩ else ⟨max x.lo y.lo, min x.hi y.hi⟩
/-- The two spans of all runes. -/
def lowR : Sp := ⟨0, 55295⟩
def highR : Sp := ⟨57344, 1114111⟩
/-- Do two spans lie over each other? -/
def ovB (x y : Sp) : Bool := decide (max x.lo y.lo ≤ min x.hi y.hi)
/-- Why row i may not stand there: 0: it may. -/
def badAt (l : List Sp) (i : Nat) : Nat :=
  match l[i]? with
  | none => 0
  | some x => if runeB x.lo = false ∨ runeB x.hi = false then 14 else if x.hi < x.lo then 15 else
    match i with
    | 0 => 0
    | j + 1 => match l[j]? with
      | none => 0
      | some y => if x.lo ≤ y.hi then 15 else 0
def rightA (l : List Sp) : Nat × Nat :=
  match (List.range l.length).find? (fun i => decide (badAt l i ≠ 0)) with
  | some i => (i, badAt l i)
  | none => (0, 0)
def Rgt (l : List Sp) : Prop := ∀ j, j < l.length → badAt l j = 0
theorem rightA_some {l : List Sp} {k : Nat} (hk : k < l.length) (hb : ∀ j, j < k → badAt l j = 0) (h : badAt l k ≠ 0) : rightA l = (k, badAt l k) := by
  have : (List.range l.length).find? (fun i => decide (badAt l i ≠ 0)) = some k := by
    rw [List.find?_range_eq_some]
    refine ⟨by simpa using h, by simpa using hk, fun j hj => by simpa using hb j hj⟩
  unfold rightA
  rw [this]
theorem rightA_none {l : List Sp} (h : Rgt l) : rightA l = (0, 0) := by
  have : (List.range l.length).find? (fun i => decide (badAt l i ≠ 0)) = none := by
    rw [List.find?_range_eq_none]
    exact fun j hj => by simpa using h j hj
  unfold rightA
  rw [this]
theorem rightA_zero {l : List Sp} (h : (rightA l).2 = 0) : Rgt l := by
  intro j hj
  unfold rightA at h
  cases hf : (List.range l.length).find? (fun i => decide (badAt l i ≠ 0)) with
  | some i =>
    rw [hf] at h
    rw [List.find?_range_eq_some] at hf
    have := hf.1
    simp at this
    exact absurd h this
  | none =>
    rw [List.find?_range_eq_none] at hf
    simpa using hf j hj
theorem rightA_le (l : List Sp) : (rightA l).1 ≤ l.length ∧ (rightA l).2 ≤ 15 := by
  unfold rightA
  cases hf : (List.range l.length).find? (fun i => decide (badAt l i ≠ 0)) with
  | some i =>
    rw [List.find?_range_eq_some] at hf
    have := hf.2.1
    simp at this
    refine ⟨by simp; omega, ?_⟩
    simp only
    unfold badAt
    split
    · omega
    · split
      · omega
      · split
        · omega
        · split
          · omega
          · split
            · omega
            · split <;> omega
  | none => simp
/-- What a right row is. -/
theorem Rgt.row {l : List Sp} (h : Rgt l) {i : Nat} {x : Sp} (hx : l[i]? = some x) : runeB x.lo = true ∧ runeB x.hi = true ∧ x.lo ≤ x.hi := by
  have := h i (List.getElem?_eq_some_iff.1 hx).1
  unfold badAt at this
  rw [hx] at this
  simp only at this
  split at this
  · omega
  · rename_i h1
    split at this
    · omega
    · rename_i h2
      refine ⟨?_, ?_, by omega⟩
      · cases hb : runeB x.lo with
        | true => rfl
        | false => exact absurd (.inl hb) h1
      · cases hb : runeB x.hi with
        | true => rfl
        | false => exact absurd (.inr hb) h1
theorem Rgt.next {l : List Sp} (h : Rgt l) {i : Nat} {x y : Sp} (hx : l[i]? = some x) (hy : l[i + 1]? = some y) : x.hi < y.lo := by
  have := h (i + 1) (List.getElem?_eq_some_iff.1 hy).1
  unfold badAt at this
  rw [hy] at this
  simp only [hx] at this
  split at this
  · omega
  · split at this
    · omega
    · split at this <;> omega
theorem Rgt.rise {l : List Sp} (h : Rgt l) {i j : Nat} {x y : Sp} (hij : i < j) (hx : l[i]? = some x) (hy : l[j]? = some y) : x.hi < y.lo := by
  induction j generalizing y with
  | zero => omega
  | succ j ih =>
    by_cases e : i = j
    · subst e; exact h.next hx hy
    · have hj : j < l.length := by have := (List.getElem?_eq_some_iff.1 hy).1; omega
      have hz : l[j]? = some l[j] := List.getElem?_eq_getElem hj
      have h1 := ih (by omega) hz
      have h2 := h.next hz hy
      have h3 := (h.row hz).2.2
      omega
theorem Rgt.nil : Rgt [] := fun j hj => by simp at hj
/-- Does r lie in it? -/
def inB (l : List Sp) (r : Int) : Bool := runeB r && l.any fun x => decide (x.lo ≤ r) && decide (r ≤ x.hi)
/-- The first span of a that meets b. -/
def meets (b : List Sp) (x : Sp) : Bool := b.any (ovB x)
def meetA (a b : List Sp) : Nat × Bool :=
  match (List.range a.length).find? (fun i => (a[i]?).any (meets b)) with
  | some i => (i, true)
  | none => (0, false)
theorem meetA_some {a b : List Sp} {k : Nat} {x : Sp} (hx : a[k]? = some x) (hb : ∀ (j : Nat) (y : Sp), j < k → a[j]? = some y → meets b y = false) (h : meets b x = true) : meetA a b = (k, true) := by
  have : (List.range a.length).find? (fun i => (a[i]?).any (meets b)) = some k := by
    rw [List.find?_range_eq_some]
    refine ⟨by rw [hx]; exact h, by simpa using (List.getElem?_eq_some_iff.1 hx).1, fun j hj => ?_⟩
    have hj' : j < a.length := by have := (List.getElem?_eq_some_iff.1 hx).1; omega
    have hz : a[j]? = some a[j] := List.getElem?_eq_getElem hj'
    rw [hz]
    simpa using hb j _ hj hz
  unfold meetA
  rw [this]
theorem meetA_none {a b : List Sp} (hb : ∀ (j : Nat) (y : Sp), a[j]? = some y → meets b y = false) : meetA a b = (0, false) := by
  have : (List.range a.length).find? (fun i => (a[i]?).any (meets b)) = none := by
    rw [List.find?_range_eq_none]
    intro j hj
    have hz : a[j]? = some a[j] := List.getElem?_eq_getElem hj
    rw [hz]
    simpa using hb j _ hz
  unfold meetA
  rw [this]
theorem meetA_true {a b : List Sp} : (meetA a b).2 = true ↔ ∃ (i : Nat) (x : Sp), a[i]? = some x ∧ meets b x = true := by
  unfold meetA
  cases hf : (List.range a.length).find? (fun i => (a[i]?).any (meets b)) with
  | some i =>
    rw [List.find?_range_eq_some] at hf
    obtain ⟨h1, h2, _⟩ := hf
    simp at h2
    rw [List.getElem?_eq_getElem h2] at h1
    simp only [true_iff]
    exact ⟨i, _, List.getElem?_eq_getElem h2, h1⟩
  | none =>
    rw [List.find?_range_eq_none] at hf
    simp only [Bool.false_eq_true, false_iff]
    rintro ⟨i, x, hx, hm⟩
    have := hf i (List.getElem?_eq_some_iff.1 hx).1
    rw [hx] at this
    simp [hm] at this
theorem meets_true {b : List Sp} {x : Sp} : meets b x = true ↔ ∃ (j : Nat) (y : Sp), b[j]? = some y ∧ ovB x y = true := by
  unfold meets
  rw [List.any_eq_true]
  constructor
  · rintro ⟨y, hy, ho⟩
    obtain ⟨j, hj⟩ := List.getElem?_of_mem hy
    exact ⟨j, y, hj, ho⟩
  · rintro ⟨j, y, hj, ho⟩
    exact ⟨y, List.mem_of_getElem? hj, ho⟩
theorem meets_false {b : List Sp} {x : Sp} (h : ∀ (j : Nat) (y : Sp), b[j]? = some y → ovB x y = false) : meets b x = false := by
  cases hm : meets b x with
  | false => rfl
  | true =>
    obtain ⟨j, y, hj, ho⟩ := meets_true.1 hm
    rw [h j y hj] at ho
    cases ho
theorem ovB_comm (x y : Sp) : ovB x y = ovB y x := by unfold ovB; rw [Int.max_comm, Int.min_comm]
theorem meetA_comm (a b : List Sp) : (meetA a b).2 = (meetA b a).2 := by
  have h : ∀ a b : List Sp, (meetA a b).2 = true → (meetA b a).2 = true := by
    intro a b h
    obtain ⟨i, x, hx, hm⟩ := meetA_true.1 h
    obtain ⟨j, y, hy, ho⟩ := meets_true.1 hm
    exact meetA_true.2 ⟨j, y, hy, meets_true.2 ⟨i, x, hx, by rw [ovB_comm]; exact ho⟩⟩
  cases h1 : (meetA a b).2 with
  | true => rw [h a b h1]
  | false =>
    cases h2 : (meetA b a).2 with
    | false => rfl
    | true => rw [h b a h2] at h1; cases h1
/-- A rune of both: they meet. -/
theorem meet_of_in {a b : List Sp} {r : Int} (ha : inB a r = true) (hb : inB b r = true) : (meetA a b).2 = true := by
  unfold inB at ha hb
  simp only [Bool.and_eq_true, List.any_eq_true, decide_eq_true_eq] at ha hb
  obtain ⟨_, x, hx, h1, h2⟩ := ha
  obtain ⟨_, y, hy, h3, h4⟩ := hb
  obtain ⟨i, hi⟩ := List.getElem?_of_mem hx
  obtain ⟨j, hj⟩ := List.getElem?_of_mem hy
  refine meetA_true.2 ⟨i, x, hi, meets_true.2 ⟨j, y, hj, ?_⟩⟩
  unfold ovB
  simp only [decide_eq_true_eq]
  omega
end Go.Proofs.Ytonbfcpbgkpbaaa
