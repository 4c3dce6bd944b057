/- Behind what is held some byte makes a whole sequence of it, or goes on with it: the mathematics. -/
import Derived.Test.YthlcdaopldnocabUScanMath
namespace Go.Proofs.Ythlcdaopldnocab
open Go.RowKit
theorem heldL_is (l : List UInt8) : heldL l ≠ [] → isHeld (heldL l) = true := by
  refine bytes_ind (p := fun l => heldL l ≠ [] → isHeld (heldL l) = true) (fun h => absurd heldL_nil h) (fun l h ih => ?_) l
  by_cases hh : isHeld l = true
  · rw [heldL_held l hh]; exact fun _ => hh
  · rw [heldL_step l h hh]; exact ih _ (drop_wid_lt l h)
theorem held_next (h : List UInt8) (hh : isHeld h = true) (hn : h ≠ []) : ∃ c : Nat, 128 ≤ c ∧ c < 192 ∧ ∃ b, front (h ++ [UInt8.ofNat c]) = (h.length + 1, b) := by
  have hf := (isHeld_iff h).1 hh
  have hs := front_spec h
  rw [hf] at hs
  have hl := List.length_pos_iff.2 hn
  have e1 : ∀ (c : UInt8) i, i < h.length → bt (h ++ [c]) i = bt h i := fun c i hi => bt_append h [c] i hi
  have e2 : ∀ (c : Nat), c < 192 → bt (h ++ [UInt8.ofNat c]) h.length = c := fun c hc => by
    unfold bt
    rw [List.getD_eq_getElem?_getD, List.getElem?_append_right (Nat.le_refl _)]
    simp
    omega
  have h3 : h.length ≤ 3 := by have := heldL_three h; rw [heldL_held h hh] at this; exact this.1
  have hc : h.length = 1 ∨ h.length = 2 ∨ h.length = 3 := by omega
  have hln : ∀ c : UInt8, (h ++ [c]).length = h.length + 1 := fun c => by simp
  unfold FS at hs
  rcases hc with hc | hc | hc <;> rw [hc] at hs e1 e2 hln ⊢ <;> simp at hs
  · obtain ⟨c, c1, c2, c3⟩ : ∃ c, (bt h 0 = 224 → c = 160) ∧ (bt h 0 = 240 → c = 144) ∧ (bt h 0 ≠ 224 → bt h 0 ≠ 240 → c = 128) := by
      by_cases h1 : bt h 0 = 224
      · exact ⟨160, by omega, by omega, by omega⟩
      · by_cases h2 : bt h 0 = 240
        · exact ⟨144, by omega, by omega, by omega⟩
        · exact ⟨128, by omega, by omega, by omega⟩
    refine ⟨c, by omega, by omega, decide (bt h 0 ≤ 223), front_is ?_⟩
    have f0 := e1 (UInt8.ofNat c) 0 (by omega)
    have f1 := e2 c (by omega)
    rw [hln, f0, f1]
    clear e1 e2
    unfold FS
    by_cases hb : bt h 0 ≤ 223 <;> simp [hb] <;> omega
  · refine ⟨128, by omega, by omega, decide (bt h 0 ≤ 239), front_is ?_⟩
    have f0 := e1 (UInt8.ofNat 128) 0 (by omega)
    have f1 := e1 (UInt8.ofNat 128) 1 (by omega)
    have f2 := e2 128 (by omega)
    rw [hln, f0, f1, f2]
    unfold FS
    by_cases hb : bt h 0 ≤ 239 <;> simp [hb] <;> omega
  · refine ⟨128, by omega, by omega, true, front_is ?_⟩
    have f0 := e1 (UInt8.ofNat 128) 0 (by omega)
    have f1 := e1 (UInt8.ofNat 128) 1 (by omega)
    have f2 := e1 (UInt8.ofNat 128) 2 (by omega)
    have f3 := e2 128 (by omega)
    rw [hln, f0, f1, f2, f3]
    unfold FS
    simp
    omega
/-- What the law asks of a byte behind l. -/
theorem goes_on (l : List UInt8) (hn : heldL l ≠ []) : ∃ c : Nat, 128 ≤ c ∧ c < 192 ∧
    (tailL (l ++ [UInt8.ofNat c]) = (heldL l).length + 1 ∨ (tailL (l ++ [UInt8.ofNat c]) = 0 ∧ ∃ A x, items 0 (l ++ [UInt8.ofNat c]) = A ++ [x] ∧ x.bad = false ∧ x.bytes = (heldL l).length + 1)) := by
  have hh := heldL_is l hn
  obtain ⟨c, h1, h2, b, hf⟩ := held_next _ hh hn
  refine ⟨c, h1, h2, ?_⟩
  rw [tail_held, held_append]
  obtain ⟨h, hl⟩ : ∃ h, heldL l = h := ⟨_, rfl⟩
  rw [hl] at hn hh hf ⊢
  cases b with
  | false =>
    refine .inl ?_
    rw [heldL_held _ ((isHeld_iff _).2 (by rw [hf]; simp))]
    simp
  | true =>
    refine .inr ?_
    have hne : h ++ [UInt8.ofNat c] ≠ [] := by simp
    have hnh : ¬ isHeld (h ++ [UInt8.ofNat c]) = true := fun e => by
      have := (isHeld_iff _).1 e
      rw [hf] at this
      have := congrArg Prod.snd this
      simp at this
    have hw : wid (h ++ [UInt8.ofNat c]) = h.length + 1 := by unfold wid; rw [hf]; rfl
    have hd : (h ++ [UInt8.ofNat c]).drop (wid (h ++ [UInt8.ofNat c])) = [] := by rw [hw]; exact List.drop_eq_nil_of_le (by simp)
    have he : heldL (h ++ [UInt8.ofNat c]) = [] := by rw [heldL_step _ hne hnh, hd, heldL_nil]
    refine ⟨by rw [he]; rfl, ?_⟩
    have hc := items_comp (l ++ [UInt8.ofNat c]) 0
    rw [held_append, hl, he, List.length_nil, show badsAt (0 + (l ++ [UInt8.ofNat c]).length - 0) 0 = [] from rfl, List.append_nil, comp_append, hl, compI_step _ _ hne hnh, hd, compI_nil] at hc
    have hx : ∀ k, (headIt k (h ++ [UInt8.ofNat c])).bad = false := fun k => by
      unfold headIt
      rw [hf]
      rfl
    exact ⟨_, _, hc, hx _, by rw [headIt_bytes, hw]⟩
end Go.Proofs.Ythlcdaopldnocab
