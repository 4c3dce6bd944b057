/- What is held of a text, and the items ahead of it: the mathematics. -/
import Derived.Test.YtddeamecgbdajaaDoorUItems
import Derived.Test.YtddeamecgbdajaaDoorUText
namespace Go.Proofs.YtddeamecgbdajaaDoor
open Go.RowKit
/-- All of l is a beginning. -/
def isHeld (l : List UInt8) : Bool := !(front l).2 && ((front l).1 == l.length)
theorem isHeld_iff (l : List UInt8) : isHeld l = true ↔ front l = (l.length, false) := by
  unfold isHeld
  rcases front l with ⟨n, b⟩
  cases b <;> simp
def heldF : Nat → List UInt8 → List UInt8
  | 0, l => l
  | f + 1, l => if l = [] then [] else if isHeld l = true then l else heldF f (l.drop (wid l))
theorem heldF_any (n : Nat) : ∀ (l : List UInt8) (f g : Nat), l.length ≤ n → l.length ≤ f → l.length ≤ g → heldF f l = heldF g l := by
  induction n with
  | zero =>
    intro l f g h _ _
    have h0 : l = [] := List.length_eq_zero_iff.1 (by omega)
    subst h0
    cases f <;> cases g <;> simp [heldF]
  | succ n ih =>
    intro l f g h hf hg
    by_cases h0 : l = []
    · subst h0
      cases f <;> cases g <;> simp [heldF]
    · have h1 := List.length_pos_iff.2 h0
      have h2 := wid_pos l
      obtain ⟨f, rfl⟩ : ∃ k, f = k + 1 := ⟨f - 1, by omega⟩
      obtain ⟨g, rfl⟩ : ∃ k, g = k + 1 := ⟨g - 1, by omega⟩
      unfold heldF
      rw [if_neg h0, if_neg h0, ih (l.drop (wid l)) f g (by simp; omega) (by simp; omega) (by simp; omega)]
/-- What is held of l. -/
def heldL (l : List UInt8) : List UInt8 := heldF l.length l
theorem heldL_nil : heldL [] = [] := rfl
theorem heldL_held (l : List UInt8) (h : isHeld l = true) : heldL l = l := by
  unfold heldL
  cases hl : l.length with
  | zero => rfl
  | succ n =>
    unfold heldF
    rw [if_neg (fun e => by subst e; simp at hl), if_pos h]
theorem heldL_step (l : List UInt8) (h0 : l ≠ []) (h : ¬ isHeld l = true) : heldL l = heldL (l.drop (wid l)) := by
  have h1 := List.length_pos_iff.2 h0
  have h2 := wid_pos l
  unfold heldL
  obtain ⟨n, hn⟩ : ∃ n, l.length = n + 1 := ⟨l.length - 1, by omega⟩
  rw [hn, heldF, if_neg h0, if_neg h, heldF_any _ (l.drop (wid l)) n _ (Nat.le_refl _) (by simp; omega) (Nat.le_refl _)]
theorem heldL_three (l : List UInt8) : (heldL l).length ≤ 3 ∧ (heldL l).length ≤ l.length := by
  refine bytes_ind (p := fun l => (heldL l).length ≤ 3 ∧ (heldL l).length ≤ l.length) ⟨by simp [heldL_nil], by simp [heldL_nil]⟩ (fun l h ih => ?_) l
  by_cases hh : isHeld l = true
  · rw [heldL_held l hh]
    have := front_le l
    rw [(isHeld_iff l).1 hh] at this
    simp at this
    omega
  · rw [heldL_step l h hh]
    have h1 := ih _ (drop_wid_lt l h)
    have := drop_wid_lt l h
    omega
/-- The items ahead of what is held. -/
def compF : Nat → Nat → List UInt8 → List It
  | 0, _, _ => []
  | f + 1, k, l => if l = [] then [] else if isHeld l = true then [] else headIt k l :: compF f (k + wid l) (l.drop (wid l))
theorem compF_any (n : Nat) : ∀ (k : Nat) (l : List UInt8) (f g : Nat), l.length ≤ n → l.length ≤ f → l.length ≤ g → compF f k l = compF g k l := by
  induction n with
  | zero =>
    intro k l f g h _ _
    have h0 : l = [] := List.length_eq_zero_iff.1 (by omega)
    subst h0
    cases f <;> cases g <;> simp [compF]
  | succ n ih =>
    intro k l f g h hf hg
    by_cases h0 : l = []
    · subst h0
      cases f <;> cases g <;> simp [compF]
    · have h1 := List.length_pos_iff.2 h0
      have h2 := wid_pos l
      obtain ⟨f, rfl⟩ : ∃ k, f = k + 1 := ⟨f - 1, by omega⟩
      obtain ⟨g, rfl⟩ : ∃ k, g = k + 1 := ⟨g - 1, by omega⟩
      unfold compF
      rw [if_neg h0, if_neg h0, ih _ (l.drop (wid l)) f g (by simp; omega) (by simp; omega) (by simp; omega)]
def compI (k : Nat) (l : List UInt8) : List It := compF l.length k l
theorem compI_nil (k : Nat) : compI k [] = [] := rfl
theorem compI_held (k : Nat) (l : List UInt8) (h : isHeld l = true) : compI k l = [] := by
  unfold compI
  cases hl : l.length with
  | zero => rfl
  | succ n =>
    unfold compF
    rw [if_neg (fun e => by subst e; simp at hl), if_pos h]
theorem compI_step (k : Nat) (l : List UInt8) (h0 : l ≠ []) (h : ¬ isHeld l = true) : compI k l = headIt k l :: compI (k + wid l) (l.drop (wid l)) := by
  have h1 := List.length_pos_iff.2 h0
  have h2 := wid_pos l
  unfold compI
  obtain ⟨n, hn⟩ : ∃ n, l.length = n + 1 := ⟨l.length - 1, by omega⟩
  rw [hn, compF, if_neg h0, if_neg h, compF_any _ _ (l.drop (wid l)) n _ (Nat.le_refl _) (by simp; omega) (Nat.le_refl _)]
theorem compI_length (l : List UInt8) : ∀ k, (compI k l).length ≤ l.length := by
  refine bytes_ind (p := fun l => ∀ k, (compI k l).length ≤ l.length) (fun k => by simp [compI_nil]) (fun l h ih k => ?_) l
  have h1 := drop_wid_lt l h
  have h2 := ih _ h1 (k + wid l)
  by_cases hh : isHeld l = true
  · rw [compI_held k l hh]; simp
  · rw [compI_step k l h hh]
    simp only [List.length_cons]
    omega
/-- So many bad items. -/
def badsAt (k : Nat) : Nat → List It
  | 0 => []
  | n + 1 => ⟨k, 1, 65533, true⟩ :: badsAt (k + 1) n
theorem badsAt_snoc (n : Nat) : ∀ k, badsAt k (n + 1) = badsAt k n ++ [⟨k + n, 1, 65533, true⟩] := by
  induction n with
  | zero => intro k; rfl
  | succ n ih =>
    intro k
    rw [badsAt, ih (k + 1)]
    simp only [badsAt, List.cons_append]
    rw [show k + 1 + n = k + (n + 1) by omega]
theorem badsAt_length (n : Nat) : ∀ k, (badsAt k n).length = n := by
  induction n with
  | zero => intro k; rfl
  | succ n ih => intro k; simp [badsAt, ih]
theorem front_inner (l : List UInt8) (i : Nat) (h0 : 0 < i) (h : i < (front l).1) : front (l.drop i) = (0, false) := by
  have := front_later l i h0 h
  exact front_none _ (by rw [bt_drop]; exact this.2.1) (by rw [bt_drop]; exact this.2.2)
theorem items_inner (n : Nat) : ∀ (k : Nat) (l : List UInt8), l.length = n → (∀ i, i < l.length → front (l.drop i) = (0, false)) → items k l = badsAt k n := by
  induction n with
  | zero => intro k l h _; rw [List.length_eq_zero_iff.1 h]; rfl
  | succ n ih =>
    intro k l h hh
    have hne : l ≠ [] := fun e => by subst e; simp at h
    have h0 := hh 0 (by omega)
    rw [List.drop_zero] at h0
    rw [items_cons k l hne]
    unfold headIt wid
    rw [h0]
    simp only [Bool.false_eq_true, if_false, badsAt]
    rw [ih (k + 1) (l.drop 1) (by simp; omega) (fun i hi => by rw [List.drop_drop]; exact hh (1 + i) (by simp at hi; omega))]
theorem items_held (k : Nat) (l : List UInt8) (h : isHeld l = true) : items k l = badsAt k l.length := by
  have hf := (isHeld_iff l).1 h
  by_cases hne : l = []
  · subst hne; rfl
  · have h1 := List.length_pos_iff.2 hne
    obtain ⟨n, hn⟩ : ∃ n, l.length = n + 1 := ⟨l.length - 1, by omega⟩
    rw [items_cons k l hne]
    unfold headIt wid
    rw [hf]
    simp only [Bool.false_eq_true, if_false]
    rw [items_inner n (k + 1) (l.drop 1) (by simp; omega) (fun i hi => by
      rw [List.drop_drop]
      exact front_inner l (1 + i) (by omega) (by rw [hf]; simp at hi ⊢; omega)), hn, badsAt]
/-- The items are those ahead of what is held, and a bad one for each byte of it. -/
theorem items_comp (l : List UInt8) : ∀ k, items k l = compI k l ++ badsAt (k + l.length - (heldL l).length) (heldL l).length := by
  refine bytes_ind (p := fun l => ∀ k, items k l = compI k l ++ badsAt (k + l.length - (heldL l).length) (heldL l).length) (fun k => by simp [items_nil, compI_nil, heldL_nil, badsAt]) (fun l h ih k => ?_) l
  by_cases hh : isHeld l = true
  · rw [compI_held k l hh, heldL_held l hh, items_held k l hh, List.nil_append, Nat.add_sub_cancel]
  · have h1 := drop_wid_lt l h
    have h2 := ih _ h1 (k + wid l)
    have h3 := wid_le l h
    have h4 := heldL_three (l.drop (wid l))
    have h5 : (l.drop (wid l)).length = l.length - wid l := List.length_drop
    have e : k + wid l + (l.drop (wid l)).length - (heldL (l.drop (wid l))).length = k + l.length - (heldL (l.drop (wid l))).length := by
      omega
    rw [items_cons k l h, compI_step k l h hh, heldL_step l h hh, h2, List.cons_append, e]
/-- WHAT Tail ANSWERS IS HOW MUCH IS HELD. -/
theorem tf_succ (l : List UInt8) (f : Nat) : tf l (f + 1) = if 3 - f ≤ l.length then (if front (l.drop (l.length - (3 - f))) = (3 - f, false) then 3 - f else tf l f) else 0 := rfl
theorem tf_short (l : List UInt8) (f : Nat) (hf : f ≤ 3) (h : l.length < 3 - f + 1) : tf l f = 0 := by
  cases f with
  | zero => rfl
  | succ f =>
    rw [tf_succ]
    exact if_neg (by omega)
theorem tf_step (l : List UInt8) (h : l ≠ []) (hh : ¬ isHeld l = true) : ∀ f, f ≤ 3 → tf l f = tf (l.drop (wid l)) f
  | 0, _ => rfl
  | f + 1, hf => by
    have ih := tf_step l h hh f (by omega)
    have hw := wid_le l h
    have hw0 := wid_pos l
    have hl : (l.drop (wid l)).length = l.length - wid l := by simp
    by_cases c : 3 - f ≤ l.length - wid l
    · rw [tf_succ, tf_succ, hl, if_pos (by omega), if_pos c, ih, List.drop_drop, show wid l + (l.length - wid l - (3 - f)) = l.length - (3 - f) by omega]
    · have e1 := tf_short (l.drop (wid l)) (f + 1) hf (by omega)
      have e2 := tf_short (l.drop (wid l)) f (by omega) (by omega)
      rw [e1]
      rw [e2] at ih
      rw [tf_succ]
      by_cases c2 : 3 - f ≤ l.length
      · rw [if_pos c2, if_neg (fun e => ?_), ih]
        by_cases c3 : l.length - (3 - f) = 0
        · rw [c3, List.drop_zero] at e
          exact hh ((isHeld_iff l).2 (by rw [e, show 3 - f = l.length by omega]))
        · have hw1 : 1 < wid l := by omega
          have h2 : (front l).2 = true := by
            cases hb : (front l).2 with
            | true => rfl
            | false => unfold wid at hw1; rw [hb] at hw1; simp at hw1
          have hwf : wid l = (front l).1 := by unfold wid; rw [if_pos h2]
          rw [front_inner l (l.length - (3 - f)) (by omega) (by omega)] at e
          have := congrArg Prod.fst e
          simp at this
          omega
      · rw [if_neg c2]
theorem tail_held (l : List UInt8) : tailL l = (heldL l).length := by
  refine bytes_ind (p := fun l => tailL l = (heldL l).length) rfl (fun l h ih => ?_) l
  by_cases hh : isHeld l = true
  · rw [heldL_held l hh]
    have hf := (isHeld_iff l).1 hh
    have h3 := (front_le l).2.2.2 (by rw [hf])
    have h0 := List.length_pos_iff.2 h
    rw [hf] at h3
    simp only at h3
    have hin : ∀ i, 0 < i → i < l.length → front (l.drop i) = (0, false) := fun i h1 h2 => front_inner l i h1 (by rw [hf]; exact h2)
    unfold tailL
    have c : l.length = 1 ∨ l.length = 2 ∨ l.length = 3 := by omega
    rcases c with c | c | c
    · simp [tf, c, hf]
    · have h1 := hin 1 (by omega) (by omega)
      rw [List.drop_one] at h1
      simp [tf, c, hf, h1]
    · have h1 := hin 1 (by omega) (by omega)
      rw [List.drop_one] at h1
      simp [tf, c, hf, h1, hin 2 (by omega) (by omega)]
  · rw [heldL_step l h hh, ← ih _ (drop_wid_lt l h)]
    exact tf_step l h hh 3 (Nat.le_refl _)
end Go.Proofs.YtddeamecgbdajaaDoor
