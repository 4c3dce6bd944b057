/- Models: what they are, and which are right: the mathematics. -/
import Derived.Test.YtonbfcpbgkpbaaaCMath
namespace Go.Proofs.Ytonbfcpbgkpbaaa
/-- A merge. -/
structure Mg where
  l : Int
  r : Int
  i : Int
/-- The text of one byte. -/
def byteS (id : Int) : ByteArray := ⟨#[UInt8.ofNat id.toNat]⟩
/-- An id's word. -/
def wordM (ws : List ByteArray) (id : Int) : Option ByteArray :=
  if 0 ≤ id ∧ id < 256 then some (byteS id) else if 256 ≤ id then ws[(id - 256).toNat]? else none
/-- Is an id a byte's, or that of one of the first n merges? -/
def madeM (ms : List Mg) (n : Nat) (id : Int) : Bool := (decide (0 ≤ id) && decide (id < 256)) || (decide (256 ≤ id) && (ms.take n).any fun x => x.i == id)
/-- The words of two ids, one behind the other. -/
def joinM (ws : List ByteArray) (l r : Int) : ByteArray := (wordM ws l).getD ⟨#[]⟩ ++ (wordM ws r).getD ⟨#[]⟩
def badW (ws : List ByteArray) (i : Nat) : Nat :=
  match ws[i]? with
  | none => 0
  | some w => if w.size < 2 ∨ 256 < w.size then 21 else if (ws.take i).any (fun v => decide (v = w)) = true then 22 else 0
def cutM (ws : List ByteArray) (ms : List Mg) (i : Nat) : Nat :=
  match ms[i]? with
  | none => 0
  | some x => if x.i < 256 ∨ (ws.length : Int) ≤ x.i - 256 ∨ madeM ms i x.i = true then 24 else if madeM ms i x.l = false ∨ madeM ms i x.r = false then 23 else if wordM ws x.i ≠ some (joinM ws x.l x.r) then 25 else 0
def pairB (x : Mg) (l r : Int) : Bool := x.l == l && x.r == r
def badM (ws : List ByteArray) (ms : List Mg) (i : Nat) : Nat :=
  if cutM ws ms i ≠ 0 then cutM ws ms i else
  match ms[i]? with
  | none => 0
  | some x => if (ms.take i).any (fun y => pairB y x.l x.r) = true then 22 else 0
/-- The first of n that f refuses. -/
def firstBad (f : Nat → Nat) (n : Nat) : Nat × Nat :=
  match (List.range n).find? (fun i => decide (f i ≠ 0)) with
  | some i => (f i, i)
  | none => (0, 0)
theorem firstBad_some {f : Nat → Nat} {n k : Nat} (hk : k < n) (hb : ∀ j, j < k → f j = 0) (h : f k ≠ 0) : firstBad f n = (f k, k) := by
  have : (List.range n).find? (fun i => decide (f i ≠ 0)) = some k := by
    rw [List.find?_range_eq_some]
    refine ⟨by simpa using h, by simpa using hk, fun j hj => by simpa using hb j hj⟩
  unfold firstBad
  rw [this]
theorem firstBad_none {f : Nat → Nat} {n : Nat} (h : ∀ j, j < n → f j = 0) : firstBad f n = (0, 0) := by
  have : (List.range n).find? (fun i => decide (f i ≠ 0)) = none := by
    rw [List.find?_range_eq_none]
    intro i hi
    simpa using h i hi
  unfold firstBad
  rw [this]
theorem firstBad_cases (f : Nat → Nat) (n : Nat) : (∀ j, j < n → f j = 0) ∧ firstBad f n = (0, 0) ∨ ∃ k, k < n ∧ (∀ j, j < k → f j = 0) ∧ f k ≠ 0 ∧ firstBad f n = (f k, k) := by
  cases h : (List.range n).find? (fun i => decide (f i ≠ 0)) with
  | none =>
    left
    have h' := List.find?_range_eq_none.1 h
    have h2 : ∀ j, j < n → f j = 0 := fun j hj => by simpa using h' j hj
    exact ⟨h2, firstBad_none h2⟩
  | some k =>
    right
    obtain ⟨h1, h2, h3⟩ := List.find?_range_eq_some.1 h
    have hk : k < n := by simpa using h2
    have hb : ∀ j, j < k → f j = 0 := fun j hj => by simpa using h3 j hj
    have hn : f k ≠ 0 := by simpa using h1
    exact ⟨k, hk, hb, hn, firstBad_some hk hb hn⟩
theorem firstBad_zero {f : Nat → Nat} {n : Nat} (h : (firstBad f n).1 = 0) : ∀ j, j < n → f j = 0 := by
  rcases firstBad_cases f n with ⟨h1, _⟩ | ⟨k, _, _, h3, h4⟩
  · exact h1
  · rw [h4] at h; exact absurd h h3
theorem firstBad_congr {f g : Nat → Nat} {n : Nat} (h : ∀ i, i < n → (∀ j, j < i → f j = 0) → f i = g i) : firstBad f n = firstBad g n := by
  have hz : ∀ i, i ≤ n → (∀ j, j < i → f j = 0) → ∀ j, j < i → g j = 0 := fun i hi hf j hj => by
    rw [← h j (by omega) (fun k hk => hf k (by omega))]; exact hf j hj
  rcases firstBad_cases f n with ⟨h1, h2⟩ | ⟨k, h1, h2, h3, h4⟩
  · rw [h2, firstBad_none (hz n (Nat.le_refl _) h1)]
  · have e := h k h1 h2
    rw [h4, firstBad_some h1 (hz k (by omega) h2) (by rw [← e]; exact h3), e]
/-- P5.1. -/
def checkD (ws : List ByteArray) (ms : List Mg) (A B C : List Sp) : Nat × Nat × Nat :=
  if 4096 < ms.length then (4, 5, 4096)
  else if ws.length ≠ ms.length then (4, 4, min ws.length ms.length)
  else if (checkA A B C).1 ≠ 0 then checkA A B C
  else if (firstBad (badW ws) ws.length).1 ≠ 0 then ((firstBad (badW ws) ws.length).1, 4, (firstBad (badW ws) ws.length).2)
  else if (firstBad (badM ws ms) ms.length).1 ≠ 0 then ((firstBad (badM ws ms) ms.length).1, 5, (firstBad (badM ws ms) ms.length).2)
  else (0, 0, 0)
/-- Words that are right: each is. -/
def WRgt (ws : List ByteArray) : Prop := ∀ j, j < ws.length → badW ws j = 0
theorem WRgt.size {ws : List ByteArray} (h : WRgt ws) {j : Nat} {w : ByteArray} (hj : ws[j]? = some w) : 2 ≤ w.size ∧ w.size ≤ 256 := by
  have := h j (List.getElem?_eq_some_iff.1 hj).1
  unfold badW at this
  rw [hj] at this
  simp only at this
  by_cases hc : w.size < 2 ∨ 256 < w.size
  · rw [if_pos hc] at this; cases this
  · omega
theorem WRgt.inj {ws : List ByteArray} (h : WRgt ws) {i j : Nat} {w : ByteArray} (hi : ws[i]? = some w) (hj : ws[j]? = some w) : i = j := by
  have key : ∀ i j, i < j → ws[i]? = some w → ws[j]? = some w → False := fun i j hij hi hj => by
    have := h j (List.getElem?_eq_some_iff.1 hj).1
    unfold badW at this
    rw [hj] at this
    simp only at this
    split at this
    · cases this
    · rw [if_pos] at this
      · cases this
      · rw [List.any_eq_true]
        refine ⟨w, ?_, by simp⟩
        rw [List.mem_iff_getElem?]
        exact ⟨i, by rw [List.getElem?_take_of_lt hij]; exact hi⟩
  rcases Nat.lt_trichotomy i j with h1 | h1 | h1
  · exact (key i j h1 hi hj).elim
  · exact h1
  · exact (key j i h1 hj hi).elim
theorem cutM_zero {ws : List ByteArray} {ms : List Mg} {i : Nat} {x : Mg} (hx : ms[i]? = some x) (h : cutM ws ms i = 0) :
    256 ≤ x.i ∧ x.i - 256 < ws.length ∧ madeM ms i x.i = false ∧ madeM ms i x.l = true ∧ madeM ms i x.r = true ∧ wordM ws x.i = some (joinM ws x.l x.r) := by
  unfold cutM at h
  rw [hx] at h
  simp only at h
  by_cases h1 : x.i < 256 ∨ (ws.length : Int) ≤ x.i - 256 ∨ madeM ms i x.i = true
  · rw [if_pos h1] at h; cases h
  · rw [if_neg h1] at h
    by_cases h2 : madeM ms i x.l = false ∨ madeM ms i x.r = false
    · rw [if_pos h2] at h; cases h
    · rw [if_neg h2] at h
      by_cases h3 : wordM ws x.i ≠ some (joinM ws x.l x.r)
      · rw [if_pos h3] at h; cases h
      · refine ⟨by omega, by omega, by simpa using fun e => h1 (.inr (.inr e)), by simpa using fun e => h2 (.inl e), by simpa using fun e => h2 (.inr e), by simpa using h3⟩
theorem wordM_in {ws : List ByteArray} {id : Int} (h : 256 ≤ id) : wordM ws id = ws[(id - 256).toNat]? := by
  unfold wordM
  rw [if_neg (by omega), if_pos h]
theorem made_ahead {ms : List Mg} {i j : Nat} {x : Mg} (hx : ms[j]? = some x) (hj : j < i) (h : 256 ≤ x.i) : madeM ms i x.i = true := by
  unfold madeM
  rw [Bool.or_eq_true, Bool.and_eq_true, Bool.and_eq_true]
  refine .inr ⟨by simpa using h, ?_⟩
  rw [List.any_eq_true]
  refine ⟨x, ?_, by simp⟩
  rw [List.mem_iff_getElem?]
  exact ⟨j, by rw [List.getElem?_take_of_lt hj]; exact hx⟩
/-- A pair that stands twice is refused for another fault. -/
theorem badM_cut {ws : List ByteArray} {ms : List Mg} {i : Nat} (hW : WRgt ws) (hc : ∀ j, j < i → cutM ws ms j = 0) : cutM ws ms i = badM ws ms i := by
  unfold badM
  by_cases h0 : cutM ws ms i ≠ 0
  · rw [if_pos h0]
  · rw [if_neg h0]
    have h0 : cutM ws ms i = 0 := by simpa using h0
    cases hx : ms[i]? with
    | none => simpa using h0
    | some x =>
      simp only
      rw [if_neg, h0]
      intro ha
      obtain ⟨y, hy, hp⟩ := List.any_eq_true.1 ha
      obtain ⟨j, hj⟩ := List.mem_iff_getElem?.1 hy
      have hji : j < i := by
        have := (List.getElem?_eq_some_iff.1 hj).1
        simp at this; omega
      rw [List.getElem?_take_of_lt hji] at hj
      obtain ⟨a1, a2, a3, -, -, a6⟩ := cutM_zero hx h0
      obtain ⟨b1, b2, -, -, -, b6⟩ := cutM_zero hj (hc j hji)
      unfold pairB at hp
      have e1 : y.l = x.l ∧ y.r = x.r := by simpa using hp
      rw [e1.1, e1.2, ← a6, wordM_in a1, wordM_in b1] at b6
      have hlt : (x.i - 256).toNat < ws.length := by omega
      have e2 := hW.inj (List.getElem?_eq_getElem hlt) (b6.trans (List.getElem?_eq_getElem hlt))
      have e3 : x.i = y.i := by omega
      rw [e3, made_ahead hj hji b1] at a3
      cases a3
theorem first_cut {ws : List ByteArray} {ms : List Mg} (hW : WRgt ws) (n : Nat) : firstBad (cutM ws ms) n = firstBad (badM ws ms) n :=
  firstBad_congr fun _ _ hb => badM_cut hW hb
/-- The rank of a pair. -/
def rankM (ms : List Mg) (l r : Int) : Option Nat := ms.findIdx? fun x => pairB x l r
/-- The greatest number of bytes. -/
def longM (ws : List ByteArray) : Nat := ws.foldl (fun n w => if n < w.size then w.size else n) 1
theorem longM_snoc (ws : List ByteArray) (w : ByteArray) : longM (ws ++ [w]) = if longM ws < w.size then w.size else longM ws := by
  unfold longM
  rw [List.foldl_append]
  rfl
theorem longM_step (ws : List ByteArray) (k : Nat) (w : ByteArray) (h : ws[k]? = some w) : longM (ws.take (k + 1)) = if longM (ws.take k) < w.size then w.size else longM (ws.take k) := by
  rw [← longM_snoc]
  congr 1
  rw [List.take_add_one, h]
  rfl
theorem rankM_step (ms : List Mg) (k : Nat) (x : Mg) (h : ms[k]? = some x) (l r : Int) : rankM (ms.take (k + 1)) l r = match rankM (ms.take k) l r with | some i => some i | none => if pairB x l r then some k else none := by
  have e : ms.take (k + 1) = ms.take k ++ [x] := by rw [List.take_add_one, h]; rfl
  have hk : k < ms.length := (List.getElem?_eq_some_iff.1 h).1
  unfold rankM
  rw [e, List.findIdx?_append]
  cases h1 : (ms.take k).findIdx? (fun x => pairB x l r) with
  | some i => simp
  | none =>
    simp only [Option.none_or, List.findIdx?_cons, List.findIdx?_nil]
    have hl : (ms.take k).length = k := by simp; omega
    rw [hl]
    cases hp : pairB x l r <;> simp
end Go.Proofs.Ytonbfcpbgkpbaaa
