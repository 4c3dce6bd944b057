/- Which texts are valid: the mathematics. -/
import Derived.Test.YthlcdaopldnocaaUHeld
namespace Go.Proofs.Ythlcdaopldnocaa
open Go.RowKit
def cleanI (l : List It) : Bool := l.all fun x => !x.bad
/-- No item is bad. -/
def cleanL (l : List UInt8) : Bool := cleanI (items 0 l)
theorem clean_any (l : List UInt8) : ∀ k, cleanI (items k l) = cleanL l := by
  unfold cleanL
  refine bytes_ind (p := fun l => ∀ k, cleanI (items k l) = cleanI (items 0 l)) (fun k => rfl) (fun l h ih k => ?_) l
  have h1 := drop_wid_lt l h
  rw [items_cons k l h, items_cons 0 l h]
  have e1 := ih _ h1 (k + wid l)
  have e2 := ih _ h1 (0 + wid l)
  unfold cleanI at e1 e2 ⊢
  rw [List.all_cons, List.all_cons, e1, e2]
  congr 1
  unfold headIt
  split <;> rfl
theorem clean_nil : cleanL [] = true := rfl
theorem clean_cons (l : List UInt8) (h : l ≠ []) : cleanL l = ((front l).2 && cleanL (l.drop (wid l))) := by
  have e := clean_any (l.drop (wid l)) (0 + wid l)
  unfold cleanL at e ⊢
  rw [items_cons 0 l h]
  unfold cleanI at e ⊢
  rw [List.all_cons, e]
  congr 1
  unfold headIt
  cases (front l).2 <;> simp
theorem clean_repl (l : List UInt8) : cleanL l = true → replL l = l := by
  refine bytes_ind (p := fun l => cleanL l = true → replL l = l) (fun _ => rfl) (fun l h ih hc => ?_) l
  rw [clean_cons l h, Bool.and_eq_true] at hc
  have h1 := (front_le l).2.2.1 hc.1
  have hw : wid l = (front l).1 := by unfold wid; rw [if_pos hc.1]
  have hs : stepL l = (front l).1 := by unfold stepL; omega
  rw [replL_cons l h, if_pos hc.1, hs, ih (l.drop (front l).1) (by have := drop_wid_lt l h; rw [hw] at this; exact this) (by rw [← hw]; exact hc.2), List.take_append_drop]
/-- Behind a whole sequence. -/
theorem clean_chunk (c x : List UInt8) (hc : (front c).2 = true) (hl : (front c).1 = c.length) : cleanL (c ++ x) = cleanL x := by
  have h1 := (front_le c).2.2.1 hc
  have hne : c ++ x ≠ [] := fun e => by
    have := congrArg List.length e
    rw [List.length_append, List.length_nil] at this
    omega
  have hf : front (c ++ x) = front c := front_append c x (.inl hc)
  have hw : wid (c ++ x) = c.length := by unfold wid; rw [hf, if_pos hc, hl]
  rw [clean_cons _ hne, hf, hc, hw, List.drop_left' rfl, Bool.true_and]
theorem repl_clean (l : List UInt8) : cleanL (replL l) = true := by
  refine bytes_ind (p := fun l => cleanL (replL l) = true) rfl (fun l h ih => ?_) l
  have h2 := stepL_pos l
  have h3 := stepL_le l h
  have ih' := ih (l.drop (stepL l)) (by simp; have := List.length_pos_iff.2 h; omega)
  rw [replL_cons l h]
  cases hb : (front l).2 with
  | true =>
    rw [if_pos rfl]
    have h1 := (front_le l).2.2.1 hb
    have hs : stepL l = (front l).1 := by unfold stepL; omega
    have hf := front_whole_take l hb
    rw [hs]
    rw [hs] at ih' h3
    rw [clean_chunk _ _ (by rw [hf]; exact hb) (by rw [hf]; simp; omega)]
    exact ih'
  | false =>
    rw [if_neg (by simp), clean_chunk [239, 191, 189] _ (by decide) (by decide)]
    exact ih'
theorem clean_iff (l : List UInt8) : cleanL l = true ↔ replL l = l := ⟨clean_repl l, fun h => by rw [← h]; exact repl_clean l⟩
theorem clean_tail (l : List UInt8) : cleanL l = true → heldL l = [] := by
  refine bytes_ind (p := fun l => cleanL l = true → heldL l = []) (fun _ => rfl) (fun l h ih hc => ?_) l
  rw [clean_cons l h, Bool.and_eq_true] at hc
  rw [heldL_step l h (fun e => by rw [(isHeld_iff l).1 e] at hc; simp at hc)]
  exact ih _ (drop_wid_lt l h) hc.2
theorem held_inner (l : List UInt8) (j : Nat) (hj : 0 < j) (hf : (front l).1 < l.length) : ∀ d, j + d ≤ (front l).1 → heldL (l.drop j) = heldL (l.drop (j + d))
  | 0, _ => rfl
  | d + 1, h => by
    have ih := held_inner l j hj hf d (by omega)
    have h0 := front_inner l (j + d) (by omega) (by omega)
    have hne : l.drop (j + d) ≠ [] := fun e => by have := congrArg List.length e; simp at this; omega
    have hnh : ¬ isHeld (l.drop (j + d)) = true := fun e => by
      have := (isHeld_iff _).1 e
      rw [h0] at this
      have := congrArg Prod.fst this
      simp at this
      omega
    rw [ih, heldL_step _ hne hnh, List.drop_drop]
    congr 2
    unfold wid
    rw [h0]
    simp
    omega
theorem held_step (l : List UInt8) (h : l ≠ []) (hh : ¬ isHeld l = true) : heldL (l.drop (stepL l)) = heldL l := by
  rw [heldL_step l h hh]
  have h0 := List.length_pos_iff.2 h
  cases hb : (front l).2 with
  | true =>
    have h1 := (front_le l).2.2.1 hb
    unfold stepL wid
    rw [hb, if_pos rfl, Nat.max_eq_left h1]
  | false =>
    have hw : wid l = 1 := by unfold wid; rw [hb, if_neg (by simp)]
    have hlt : (front l).1 < l.length := by
      have := (front_le l).1
      rcases Nat.lt_or_ge (front l).1 l.length with h' | h'
      · exact h'
      · exact absurd ((isHeld_iff l).2 (by rw [show front l = ((front l).1, (front l).2) from rfl, hb, show (front l).1 = l.length by omega])) hh
    rw [hw]
    unfold stepL
    by_cases h1 : 1 ≤ (front l).1
    · have := held_inner l 1 (by omega) hlt ((front l).1 - 1) (by omega)
      rw [Nat.max_eq_left h1, this, show 1 + ((front l).1 - 1) = (front l).1 by omega]
    · rw [show max (front l).1 1 = 1 by omega]
theorem repl_append (l t : List UInt8) : heldL l = [] → replL (l ++ t) = replL l ++ replL t := by
  refine bytes_ind (p := fun l => heldL l = [] → replL (l ++ t) = replL l ++ replL t) (fun _ => by simp [replL_nil]) (fun l h ih hh => ?_) l
  have hnh : ¬ isHeld l = true := fun e => by rw [heldL_held l e] at hh; exact h hh
  have h2 := stepL_pos l
  have h3 := stepL_le l h
  have h0 := List.length_pos_iff.2 h
  have hc : (front l).2 = true ∨ (front l).1 < l.length := by
    cases hb : (front l).2 with
    | true => exact .inl rfl
    | false =>
      refine .inr ?_
      have := (front_le l).1
      rcases Nat.lt_or_ge (front l).1 l.length with h' | h'
      · exact h'
      · exact absurd ((isHeld_iff l).2 (by rw [show front l = ((front l).1, (front l).2) from rfl, hb, show (front l).1 = l.length by omega])) hnh
  have hf := front_append l t hc
  have hst : stepL (l ++ t) = stepL l := by unfold stepL; rw [hf]
  have hne : l ++ t ≠ [] := fun e => h (List.append_eq_nil_iff.1 e).1
  rw [replL_cons _ hne, replL_cons l h, hf, hst, List.drop_append_of_le_length h3, List.take_append_of_le_length h3,
    ih (l.drop (stepL l)) (by simp; omega) (by rw [held_step l h hnh]; exact hh), List.append_assoc]
end Go.Proofs.Ythlcdaopldnocaa
