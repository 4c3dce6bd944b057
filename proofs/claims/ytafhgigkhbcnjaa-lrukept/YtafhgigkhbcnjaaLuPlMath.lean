/- LruPlays' list against the cache's. -/
import Derived.Test.YtafhgigkhbcnjaaLuRows
namespace Go.Proofs.Ytafhgigkhbcnjaa.LU.K
open Go.RowKit Go.Joins Go.Sort Go.Maps
set_option linter.unusedVariables false
set_option linter.unusedSimpArgs false
set_option maxRecDepth 100000
theorem Lru.nodup {w : World} {x c : Nat} {F : Nat → Prop} {l : List (κ × Int)} (h : Lru w x c F l) : (l.map (·.1)).Nodup := by
  obtain ⟨mb, kn, bl, key, val, f, h1, rfl, _⟩ := h
  have hmap : (rowsOf key val bl).map (·.1) = bl.map key := by unfold rowsOf; rw [List.map_map]; rfl
  rw [hmap]
  exact h1.keys
theorem without_split {l1 l2 : List (κ × Int)} {r : κ × Int} (h : ((l1 ++ r :: l2).map (·.1)).Nodup) : without r.1 (l1 ++ r :: l2) = l1 ++ l2 := by
  unfold without
  rw [List.map_append, List.map_cons, List.nodup_append] at h
  obtain ⟨_, h2, h3⟩ := h
  have h4 := (List.nodup_cons.1 h2).1
  rw [List.filter_append, List.filter_cons_of_neg (by simp)]
  congr 1
  · rw [List.filter_eq_self]
    intro y hy
    simp only [decide_eq_true_eq]
    exact fun e => h3 y.1 (List.mem_map_of_mem hy) _ (List.mem_cons_self) e
  · rw [List.filter_eq_self]
    intro y hy
    simp only [decide_eq_true_eq]
    exact fun e => h4 (by rw [← e]; exact List.mem_map_of_mem hy)
theorem got_split {l1 l2 : List (κ × Int)} {r : κ × Int} (h : ((l1 ++ r :: l2).map (·.1)).Nodup) : gotL (l1 ++ r :: l2) r.1 = some r.2 := by
  unfold gotL
  rw [List.map_append, List.map_cons, List.nodup_append] at h
  obtain ⟨_, h2, h3⟩ := h
  rw [List.find?_append, List.find?_eq_none.2 (fun y hy => by
    simp only [decide_eq_true_eq]
    exact fun e => h3 y.1 (List.mem_map_of_mem hy) _ (List.mem_cons_self) e), List.find?_cons_of_pos (by simp)]
  rfl
theorem idx_cases (l : List (κ × Int)) (k : κ) (h : (l.map (·.1)).Nodup) :
    (∃ (p : Nat) (r : κ × Int), idxZ l k = (p : Nat) ∧ l[p]? = some r ∧ p < l.length ∧ r.1 = k ∧ l.take p ++ l.drop (p + 1) = without k l ∧ gotL l k = some r.2) ∨ (idxZ l k = -1 ∧ without k l = l ∧ gotL l k = none) := by
  cases hi : l.findIdx? (fun r => decide (r.1 = k)) with
  | none =>
    right
    rw [List.findIdx?_eq_none_iff] at hi
    refine ⟨idxZ_no fun y hy => by simpa using hi y hy, ?_, ?_⟩
    · unfold without
      rw [List.filter_eq_self]
      intro y hy
      simpa using hi y hy
    · unfold gotL
      rw [Option.map_eq_none_iff, List.find?_eq_none]
      intro y hy
      simpa using hi y hy
  | some p =>
    left
    obtain ⟨hp, hr, hb⟩ := List.findIdx?_eq_some_iff_getElem.1 hi
    have hr' : (l[p]).1 = k := by simpa using hr
    have hsp : l = l.take p ++ l[p] :: l.drop (p + 1) := by
      rw [List.getElem_cons_drop, List.take_append_drop]
    refine ⟨p, l[p], ?_, List.getElem?_eq_getElem hp, hp, hr', ?_, ?_⟩
    · unfold idxZ; rw [hi]
    · have := h
      rw [hsp] at this
      have e := without_split this
      rw [← hsp, hr'] at e
      exact e.symm
    · have := h
      rw [hsp] at this
      have e := got_split this
      rw [← hsp, hr'] at e
      exact e
theorem getL_some {l : List (κ × Int)} {k : κ} {v : Int} (h : gotL l k = some v) : getL l k = (k, v) :: without k l := by unfold getL; rw [h]
theorem getL_none {l : List (κ × Int)} {k : κ} (h : gotL l k = none) : getL l k = l := by unfold getL; rw [h]
theorem without_le (k : κ) (l : List (κ × Int)) : (without k l).length ≤ l.length := List.length_filter_le _ _
/-- How a row of one's own is read. -/
theorem Rw.form {w : World} {B : Nat} {v : Value} {l : List (κ × Int)} (h : Rw w B v l) : ∃ a cap, v = .slice a l.length cap ∧ RSP w a l ∧ l.length ≤ cap ∧ (∀ g, v.ownBlock = some g → B ≤ g ∧ g < w.heap.size ∧ ∃ cur, w.heap[g]? = some (.cells cur TR (0, 0))) := by
  rcases h.2 with ⟨rfl, hn⟩ | ⟨g, cap, cur, rfl, hb, hh, hn, hm, hcs, htk⟩
  · have : l = [] := List.eq_nil_of_length_eq_zero hn
    subst this
    exact ⟨none, 0, rfl, .inl rfl, by simp, fun g hg => by cases hg⟩
  · refine ⟨some ⟨g, 0, none⟩, cap, rfl, .inr ⟨g, 0, rfl, fun j u hu => ?_⟩, hn, fun g' hg => ?_⟩
    · rw [cell_of_block hh, Nat.zero_add, ← Array.getElem?_toList]
      rw [← htk, List.getElem?_take] at hu
      split at hu
      · exact hu
      · cases hu
    · cases hg
      exact ⟨hb, (Array.getElem?_eq_some_iff.1 hh).1, cur, hh⟩
theorem Rw.pos {w : World} {B : Nat} {v : Value} {l : List (κ × Int)} (h : Rw w B v l) (h0 : 0 < l.length) : ∃ g cap cur, v = .slice (some ⟨g, 0, none⟩) l.length cap ∧ B ≤ g ∧ w.heap[g]? = some (.cells cur TR (0, 0)) ∧ l.length ≤ cap ∧ cap ≤ maxLen ∧ cur.size = cap * 3 ∧ cur.toList.take (l.length * 3) = cellsR l := by
  rcases h.2 with ⟨rfl, hn⟩ | h
  · omega
  · exact h
theorem Rw.kept {w w' : World} {B : Nat} {v : Value} {l : List (κ × Int)} (h : Rw w B v l) (hk : ∀ g, v.ownBlock = some g → w'.heap[g]? = w.heap[g]?) : Rw w' B v l := by
  refine ⟨h.1, ?_⟩
  rcases h.2 with h | ⟨g, cap, cur, rfl, hb, hh, r⟩
  · exact .inl h
  · exact .inr ⟨g, cap, cur, rfl, hb, (hk g rfl).trans hh, r⟩
theorem Rw.below {w w' : World} {B : Nat} {v : Value} {l : List (κ × Int)} (h : Rw w B v l) (hb : Below w.heap.size w w') : Rw w' B v l :=
  h.kept fun g hg => by
    obtain ⟨a, cap, rfl, _, _, h3⟩ := h.form
    exact hb.block g (h3 g hg).2.1
theorem Rw.nil (w : World) (B : Nat) : Rw w B (.slice none 0 0) [] := ⟨rfl, .inl ⟨rfl, rfl⟩⟩
theorem Rw.cut {w : World} {B g cap n : Nat} {l : List (κ × Int)} (h : Rw w B (.slice (some ⟨g, 0, none⟩) n cap) l) (m : Nat) (hm : m ≤ l.length) (hn : n = l.length) : Rw w B (.slice (some ⟨g, 0, none⟩) m cap) (l.take m) := by
  rcases h.2 with ⟨h, _⟩ | ⟨g', cap', cur, e, hb, hh, hn', hm', hcs, htk⟩
  · cases h
  · simp only [Value.slice.injEq, Option.some.injEq, Addr.mk.injEq, and_true] at e
    obtain ⟨rfl, -, rfl⟩ := e
    have hl : (l.take m).length = m := by rw [List.length_take]; omega
    refine ⟨by rw [cellsR_length], .inr ⟨g, cap, cur, by rw [hl], hb, hh, by rw [hl]; omega, hm', hcs, ?_⟩⟩
    rw [hl]
    have e1 : cur.toList.take (m * 3) = (cur.toList.take (l.length * 3)).take (m * 3) := by rw [List.take_take, Nat.min_eq_left (by omega)]
    rw [e1, htk]
    have e2 : cellsR l = cellsR (l.take m) ++ cellsR (l.drop m) := by rw [← cellsR_app, List.take_append_drop]
    rw [e2, List.take_left' (by rw [cellsR_length, hl])]
/-- A part of what a slice holds. -/
theorem RSP.part {w : World} {g off : Nat} {l : List (κ × Int)} (h : RSP w (some ⟨g, off, none⟩) l) (p m : Nat) : RSP w (some ⟨g, off + p * 3, none⟩) ((l.drop p).take m) := by
  rcases h with h | ⟨b, o, e, hc⟩
  · left; rw [h]; simp
  · cases e
    refine .inr ⟨g, off + p * 3, rfl, fun j u hu => ?_⟩
    have e2 : cellsR l = cellsR (l.take p) ++ (cellsR ((l.drop p).take m) ++ cellsR ((l.drop p).drop m)) := by
      rw [← cellsR_app, List.take_append_drop, ← cellsR_app, List.take_append_drop]
    have := hc (p * 3 + j) u (by
      by_cases hp : p ≤ l.length
      · rw [e2, List.getElem?_append_right (by rw [cellsR_length, List.length_take]; omega), cellsR_length, List.length_take, Nat.min_eq_left hp, Nat.add_sub_cancel_left, List.getElem?_append_left]
        · exact hu
        · exact (List.getElem?_eq_some_iff.1 hu).1
      · rw [List.drop_eq_nil_of_le (by omega)] at hu
        simp [cellsR] at hu)
    rw [← Nat.add_assoc] at this
    exact this
end Go.Proofs.Ytafhgigkhbcnjaa.LU.K
