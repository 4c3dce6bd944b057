/- The mathematics of utf: which bytes at a front fit into one sequence; items, what is held, what is put in an ill-formed part's place. -/
import Derived.Laws.RangeAny
namespace Go.Proofs.Ytonbfcpbgkpbaaa
def bt (l : List UInt8) (i : Nat) : Nat := (l.getD i 0).toNat
theorem bt_lt (l : List UInt8) (i : Nat) : bt l i < 256 := UInt8.toNat_lt _
theorem bt_drop (l : List UInt8) (k i : Nat) : bt (l.drop k) i = bt l (k + i) := by simp [bt, List.getD]
theorem bt_append (l t : List UInt8) (i : Nat) (h : i < l.length) : bt (l ++ t) i = bt l i := by simp [bt, List.getD, List.getElem?_append_left h]
theorem bt_over (l : List UInt8) (i : Nat) (h : l.length ≤ i) : bt l i = 0 := by simp [bt, List.getD, List.getElem?_eq_none h]
theorem bt_get (l : List UInt8) (i : Nat) (h : i < l.length) : l[i]? = some (UInt8.ofNat (bt l i)) := by
  simp [bt, List.getD, List.getElem?_eq_getElem h]
/-- A byte from lo to hi stands at i. -/
def stands (l : List UInt8) (i lo hi : Nat) : Bool := decide (i < l.length) && (decide (lo ≤ bt l i) && decide (bt l i ≤ hi))
def goOne (l : List UInt8) (n lo hi : Nat) : Nat × Bool := if stands l n lo hi = true then (n + 1, true) else (n, false)
def goTwo (l : List UInt8) (n lo hi : Nat) : Nat × Bool := if stands l n lo hi = true then goOne l (n + 1) 128 191 else (n, false)
def goThree (l : List UInt8) (n lo hi : Nat) : Nat × Bool := if stands l n lo hi = true then goTwo l (n + 1) 128 191 else (n, false)
/-- How many bytes fit into one sequence; are they the whole of it? -/
def front (l : List UInt8) : Nat × Bool :=
  if l.length = 0 then (0, false) else
  if bt l 0 ≤ 127 then (1, true) else
  if bt l 0 ≤ 193 then (0, false) else
  if bt l 0 ≤ 223 then goOne l 1 128 191 else
  if bt l 0 = 224 then goTwo l 1 160 191 else
  if bt l 0 = 237 then goTwo l 1 128 159 else
  if bt l 0 ≤ 239 then goTwo l 1 128 191 else
  if bt l 0 = 240 then goThree l 1 144 191 else
  if bt l 0 ≤ 243 then goThree l 1 128 191 else
  if bt l 0 = 244 then goThree l 1 128 143 else (0, false)
/-- What front answers, by the bytes: n bytes, of which b0 .. b3 are the first ones. -/
def FS (n b0 b1 b2 b3 : Nat) (r : Nat × Bool) : Prop :=
  (r = (0, false) ∧ (n = 0 ∨ (0 < n ∧ 128 ≤ b0 ∧ (b0 ≤ 193 ∨ 245 ≤ b0)))) ∨
  (r = (1, true) ∧ 0 < n ∧ b0 ≤ 127) ∨
  (r = (1, false) ∧ 0 < n ∧ 194 ≤ b0 ∧ b0 ≤ 244 ∧ (n = 1 ∨ b1 < 128 ∨ 191 < b1 ∨ (b0 = 224 ∧ b1 < 160) ∨ (b0 = 240 ∧ b1 < 144) ∨ (b0 = 237 ∧ 159 < b1) ∨ (b0 = 244 ∧ 143 < b1))) ∨
  (r = (2, true) ∧ 1 < n ∧ 194 ≤ b0 ∧ b0 ≤ 223 ∧ 128 ≤ b1 ∧ b1 ≤ 191) ∨
  (r = (2, false) ∧ 1 < n ∧ 224 ≤ b0 ∧ b0 ≤ 244 ∧ 128 ≤ b1 ∧ b1 ≤ 191 ∧ (b0 ≠ 224 ∨ 160 ≤ b1) ∧ (b0 ≠ 240 ∨ 144 ≤ b1) ∧ (b0 ≠ 237 ∨ b1 ≤ 159) ∧ (b0 ≠ 244 ∨ b1 ≤ 143) ∧ (n = 2 ∨ b2 < 128 ∨ 191 < b2)) ∨
  (r = (3, true) ∧ 2 < n ∧ 224 ≤ b0 ∧ b0 ≤ 239 ∧ 128 ≤ b1 ∧ b1 ≤ 191 ∧ (b0 ≠ 224 ∨ 160 ≤ b1) ∧ (b0 ≠ 237 ∨ b1 ≤ 159) ∧ 128 ≤ b2 ∧ b2 ≤ 191) ∨
  (r = (3, false) ∧ 2 < n ∧ 240 ≤ b0 ∧ b0 ≤ 244 ∧ 128 ≤ b1 ∧ b1 ≤ 191 ∧ (b0 ≠ 240 ∨ 144 ≤ b1) ∧ (b0 ≠ 244 ∨ b1 ≤ 143) ∧ 128 ≤ b2 ∧ b2 ≤ 191 ∧ (n = 3 ∨ b3 < 128 ∨ 191 < b3)) ∨
  (r = (4, true) ∧ 3 < n ∧ 240 ≤ b0 ∧ b0 ≤ 244 ∧ 128 ≤ b1 ∧ b1 ≤ 191 ∧ (b0 ≠ 240 ∨ 144 ≤ b1) ∧ (b0 ≠ 244 ∨ b1 ≤ 143) ∧ 128 ≤ b2 ∧ b2 ≤ 191 ∧ 128 ≤ b3 ∧ b3 ≤ 191)
theorem FS.inj {n b0 b1 b2 b3 : Nat} {r r' : Nat × Bool} (h : FS n b0 b1 b2 b3 r) (h' : FS n b0 b1 b2 b3 r') : r = r' := by
  unfold FS at h h'
  rcases h with ⟨e, g⟩ | ⟨e, g⟩ | ⟨e, g⟩ | ⟨e, g⟩ | ⟨e, g⟩ | ⟨e, g⟩ | ⟨e, g⟩ | ⟨e, g⟩ <;>
  rcases h' with ⟨e', g'⟩ | ⟨e', g'⟩ | ⟨e', g'⟩ | ⟨e', g'⟩ | ⟨e', g'⟩ | ⟨e', g'⟩ | ⟨e', g'⟩ | ⟨e', g'⟩ <;> first | exact e.trans e'.symm | (exfalso; clear e e'; omega)
theorem stands_iff (l : List UInt8) (i lo hi : Nat) : stands l i lo hi = true ↔ i < l.length ∧ lo ≤ bt l i ∧ bt l i ≤ hi := by simp [stands]
theorem fs_ite {n b0 b1 b2 b3 : Nat} {c : Prop} [Decidable c] {x y : Nat × Bool} (h : c → FS n b0 b1 b2 b3 x) (h' : ¬c → FS n b0 b1 b2 b3 y) : FS n b0 b1 b2 b3 (if c then x else y) := by
  split
  · exact h (by assumption)
  · exact h' (by assumption)
theorem front_fs (l : List UInt8) : FS l.length (bt l 0) (bt l 1) (bt l 2) (bt l 3) (front l) := by
  unfold front goThree goTwo goOne
  simp only [stands_iff, Nat.reduceAdd]
  generalize bt l 0 = b0
  generalize bt l 1 = b1
  generalize bt l 2 = b2
  generalize bt l 3 = b3
  generalize l.length = n
  repeat' refine fs_ite (fun _ => ?_) (fun _ => ?_)
  all_goals
    unfold FS
    simp
    omega
theorem front_is {l : List UInt8} {r : Nat × Bool} (h : FS l.length (bt l 0) (bt l 1) (bt l 2) (bt l 3) r) : front l = r := (front_fs l).inj h
theorem front_spec (l : List UInt8) : FS l.length (bt l 0) (bt l 1) (bt l 2) (bt l 3) (front l) := front_fs l
def wid (l : List UInt8) : Nat := if (front l).2 = true then (front l).1 else 1
theorem front_le (l : List UInt8) : (front l).1 ≤ l.length ∧ (front l).1 ≤ 4 ∧ ((front l).2 = true → 1 ≤ (front l).1) ∧ ((front l).2 = false → (front l).1 ≤ 3) := by
  rcases front_spec l with ⟨e, h⟩ | ⟨e, h⟩ | ⟨e, h⟩ | ⟨e, h⟩ | ⟨e, h⟩ | ⟨e, h⟩ | ⟨e, h⟩ | ⟨e, h⟩ <;> rw [e] <;> simp <;> omega
theorem wid_pos (l : List UInt8) : 1 ≤ wid l := by
  unfold wid; split
  · exact (front_le l).2.2.1 (by assumption)
  · exact Nat.le_refl _
theorem wid_le (l : List UInt8) (h : l ≠ []) : wid l ≤ l.length := by
  have h0 : 0 < l.length := List.length_pos_iff.2 h
  unfold wid; split
  · exact (front_le l).1
  · omega
theorem wid_four (l : List UInt8) : wid l ≤ 4 := by
  unfold wid; split
  · exact (front_le l).2.1
  · omega
/-- What stands behind turns nothing, but where all that stands is a beginning. -/
theorem front_append (l t : List UInt8) (h : (front l).2 = true ∨ (front l).1 < l.length) : front (l ++ t) = front l := by
  refine front_is ?_
  have e0 := bt_append l t 0
  have e1 := bt_append l t 1
  have e2 := bt_append l t 2
  have e3 := bt_append l t 3
  have hl : (l ++ t).length = l.length + t.length := List.length_append
  generalize (l ++ t).length = m at *
  generalize bt (l ++ t) 0 = c0 at *
  generalize bt (l ++ t) 1 = c1 at *
  generalize bt (l ++ t) 2 = c2 at *
  generalize bt (l ++ t) 3 = c3 at *
  unfold FS
  rcases front_spec l with ⟨e, g⟩ | ⟨e, g⟩ | ⟨e, g⟩ | ⟨e, g⟩ | ⟨e, g⟩ | ⟨e, g⟩ | ⟨e, g⟩ | ⟨e, g⟩ <;> rw [e] at h ⊢ <;> clear e <;> simp at h ⊢ <;> omega
/-- Behind the first byte of what fits stand bytes from 128 to 191. -/
theorem front_later (l : List UInt8) (i : Nat) (h0 : 0 < i) (h : i < (front l).1) : i < l.length ∧ 128 ≤ bt l i ∧ bt l i ≤ 191 := by
  rcases front_spec l with ⟨e, g⟩ | ⟨e, g⟩ | ⟨e, g⟩ | ⟨e, g⟩ | ⟨e, g⟩ | ⟨e, g⟩ | ⟨e, g⟩ | ⟨e, g⟩ <;> rw [e] at h <;> simp at h <;> try (exfalso; omega)
  all_goals
    have hi : i = 1 ∨ i = 2 ∨ i = 3 := by omega
    rcases hi with rfl | rfl | rfl <;> omega
theorem front_first (l : List UInt8) (h : (front l).2 = false) (h1 : 1 ≤ (front l).1) : 194 ≤ bt l 0 ∧ bt l 0 ≤ 244 := by
  rcases front_spec l with ⟨e, g⟩ | ⟨e, g⟩ | ⟨e, g⟩ | ⟨e, g⟩ | ⟨e, g⟩ | ⟨e, g⟩ | ⟨e, g⟩ | ⟨e, g⟩ <;> rw [e] at h h1 <;> simp at h h1 <;> omega
theorem front_none (l : List UInt8) (h1 : 128 ≤ bt l 0) (h2 : bt l 0 ≤ 191) : front l = (0, false) := by
  have hl : l.length ≠ 0 := fun h => by rw [bt_over l 0 (by omega)] at h1; omega
  refine front_is ?_
  unfold FS
  simp
  omega
theorem front_nil : front [] = (0, false) := rfl
/-- A beginning of what fits is what fits of it. -/
theorem front_take (l : List UInt8) (k : Nat) (h : k < (front l).1 ∨ (k = (front l).1 ∧ (front l).2 = false)) : front (l.take k) = (k, false) := by
  refine front_is ?_
  have hl := (front_le l).1
  have hk : (l.take k).length = k := by simp; omega
  have et : ∀ i, i < k → bt (l.take k) i = bt l i := fun i hi => by simp [bt, List.getD, hi]
  have e0 := et 0
  have e1 := et 1
  have e2 := et 2
  have e3 := et 3
  rw [hk]
  generalize bt (l.take k) 0 = c0 at *
  generalize bt (l.take k) 1 = c1 at *
  generalize bt (l.take k) 2 = c2 at *
  generalize bt (l.take k) 3 = c3 at *
  clear et
  unfold FS
  have hc : k = 0 ∨ k = 1 ∨ k = 2 ∨ k = 3 := by
    have h4 := front_le l
    rcases h with h | ⟨h, h'⟩
    · omega
    · have := h4.2.2.2 h'
      omega
  rcases front_spec l with ⟨e, g⟩ | ⟨e, g⟩ | ⟨e, g⟩ | ⟨e, g⟩ | ⟨e, g⟩ | ⟨e, g⟩ | ⟨e, g⟩ | ⟨e, g⟩ <;> rw [e] at h hl <;> clear e <;> simp at h hl <;>
  rcases hc with rfl | rfl | rfl | rfl <;> simp <;> omega
/-- The whole sequence alone is whole. -/
theorem front_whole_take (l : List UInt8) (h : (front l).2 = true) : front (l.take (front l).1) = front l := by
  have hl := (front_le l).1
  refine front_is ?_
  generalize hk0 : (front l).1 = k at *
  have hk : (l.take k).length = k := by simp; omega
  have et : ∀ i, i < k → bt (l.take k) i = bt l i := fun i hi => by simp [bt, List.getD, hi]
  have e0 := et 0
  have e1 := et 1
  have e2 := et 2
  have e3 := et 3
  rw [hk]
  generalize bt (l.take k) 0 = c0 at *
  generalize bt (l.take k) 1 = c1 at *
  generalize bt (l.take k) 2 = c2 at *
  generalize bt (l.take k) 3 = c3 at *
  clear et
  unfold FS
  rcases front_spec l with ⟨e, g⟩ | ⟨e, g⟩ | ⟨e, g⟩ | ⟨e, g⟩ | ⟨e, g⟩ | ⟨e, g⟩ | ⟨e, g⟩ | ⟨e, g⟩ <;> rw [e] at h hk0 ⊢ <;> clear e <;> simp at h hk0 ⊢ <;> omega
end Go.Proofs.Ytonbfcpbgkpbaaa
