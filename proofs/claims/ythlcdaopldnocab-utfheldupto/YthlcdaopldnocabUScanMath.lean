/- Bytes that come one behind the other: the mathematics. -/
import Derived.Test.YthlcdaopldnocabUHeld
namespace Go.Proofs.Ythlcdaopldnocab
open Go.RowKit
theorem not_held_append (l t : List UInt8) (_h : l ≠ []) (hh : ¬ isHeld l = true) : wid (l ++ t) = wid l ∧ (¬ isHeld (l ++ t) = true) ∧ ∀ k, headIt k (l ++ t) = headIt k l := by
  have hc : (front l).2 = true ∨ (front l).1 < l.length := by
    cases hb : (front l).2 with
    | true => exact .inl rfl
    | false =>
      refine .inr ?_
      have := (front_le l).1
      rcases Nat.lt_or_ge (front l).1 l.length with h' | h'
      · exact h'
      · exact absurd ((isHeld_iff l).2 (by rw [show front l = ((front l).1, (front l).2) from rfl, hb, show (front l).1 = l.length by omega])) hh
  have hf := front_append l t hc
  refine ⟨by unfold wid; rw [hf], fun e => ?_, fun k => ?_⟩
  · have := (isHeld_iff _).1 e
    rw [hf] at this
    rcases hc with hc | hc
    · rw [this] at hc; cases hc
    · rw [this, List.length_append] at hc
      simp at hc
      omega
  · unfold headIt
    rw [hf]
    split
    · rename_i hb
      have hl := (front_le l).1
      congr 1
      unfold rn
      rw [hf]
      have e : ∀ i, i < (front l).1 → bt (l ++ t) i = bt l i := fun i hi => bt_append l t i (by omega)
      have h1 := (front_le l).2.2.1 hb
      have h4 := (front_le l).2.1
      have c : (front l).1 = 1 ∨ (front l).1 = 2 ∨ (front l).1 = 3 ∨ (front l).1 = 4 := by omega
      rcases c with c | c | c | c <;> rw [c] at e ⊢ <;> simp [e]
    · rfl
theorem held_append (l t : List UInt8) : heldL (l ++ t) = heldL (heldL l ++ t) := by
  refine bytes_ind (p := fun l => heldL (l ++ t) = heldL (heldL l ++ t)) rfl (fun l h ih => ?_) l
  by_cases hh : isHeld l = true
  · rw [heldL_held l hh]
  · obtain ⟨h1, h2, -⟩ := not_held_append l t h hh
    have h3 := wid_le l h
    rw [heldL_step (l ++ t) (fun e => h (List.append_eq_nil_iff.1 e).1) h2, h1, List.drop_append_of_le_length h3, heldL_step l h hh]
    exact ih _ (drop_wid_lt l h)
theorem comp_append (l t : List UInt8) : ∀ k, compI k (l ++ t) = compI k l ++ compI (k + l.length - (heldL l).length) (heldL l ++ t) := by
  refine bytes_ind (p := fun l => ∀ k, compI k (l ++ t) = compI k l ++ compI (k + l.length - (heldL l).length) (heldL l ++ t)) (fun k => rfl) (fun l h ih k => ?_) l
  by_cases hh : isHeld l = true
  · rw [heldL_held l hh, compI_held k l hh, List.nil_append, Nat.add_sub_cancel]
  · obtain ⟨h1, h2, h4⟩ := not_held_append l t h hh
    have h3 := wid_le l h
    have h5 : (l.drop (wid l)).length = l.length - wid l := List.length_drop
    rw [compI_step k (l ++ t) (fun e => h (List.append_eq_nil_iff.1 e).1) h2, h1, h4, List.drop_append_of_le_length h3, heldL_step l h hh, compI_step k l h hh, ih _ (drop_wid_lt l h), List.cons_append,
      show k + wid l + (l.drop (wid l)).length = k + l.length by omega]
/-- Items further on. -/
def shiftI (d : Nat) (l : List It) : List It := l.map fun x => ⟨x.frm + d, x.bytes, x.rune, x.bad⟩
theorem shift_comp (d : Nat) (l : List UInt8) : ∀ k, shiftI d (compI k l) = compI (k + d) l := by
  refine bytes_ind (p := fun l => ∀ k, shiftI d (compI k l) = compI (k + d) l) (fun k => rfl) (fun l h ih k => ?_) l
  by_cases hh : isHeld l = true
  · rw [compI_held k l hh, compI_held (k + d) l hh]; rfl
  · have e := ih _ (drop_wid_lt l h) (k + wid l)
    rw [compI_step k l h hh, compI_step (k + d) l h hh, show k + d + wid l = k + wid l + d by omega, ← e]
    unfold shiftI headIt
    rw [List.map_cons]
    congr 1
    split <;> rfl
theorem shift_bads (d n : Nat) : ∀ k, shiftI d (badsAt k n) = badsAt (k + d) n := by
  induction n with
  | zero => intro k; rfl
  | succ n ih =>
    intro k
    have e := ih (k + 1)
    unfold shiftI at e ⊢
    simp only [badsAt, List.map_cons]
    rw [e, show k + 1 + d = k + d + 1 by omega]
end Go.Proofs.Ythlcdaopldnocab
