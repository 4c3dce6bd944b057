/- A greater cache has what a lesser one has: the mathematics. -/
import Derived.Test.YtafhgigkhbcnjaaLuPlMath
namespace Go.Proofs.Ytafhgigkhbcnjaa.LU.K
set_option linter.unusedVariables false
set_option linter.unusedSimpArgs false
theorem without_ge {k : κ} : ∀ {l : List (κ × Int)}, (l.map (·.1)).Nodup → l.length ≤ (without k l).length + 1
  | [], _ => by simp
  | r :: l, h => by
    rw [List.map_cons, List.nodup_cons] at h
    unfold without
    by_cases hr : r.1 = k
    · rw [List.filter_cons_of_neg (by simpa using hr)]
      have : without k l = l := by
        unfold without
        rw [List.filter_eq_self]
        intro y hy
        simp only [decide_eq_true_eq]
        exact fun e => h.1 (by rw [hr, ← e]; exact List.mem_map_of_mem hy)
      unfold without at this
      rw [this]
      simp
    · rw [List.filter_cons_of_pos (by simpa using hr)]
      have := without_ge (k := k) h.2
      unfold without at this
      simp only [List.length_cons]
      omega
/-- One step of both. -/
theorem put_take {c d : Nat} {l m : List (κ × Int)} {k : κ} {v : Int} (hcd : c ≤ d) (hm : (m.map (·.1)).Nodup) (hl : l = m.take c) : putL c l k v = (putL d m k v).take c := by
  unfold putL
  rw [List.take_take, Nat.min_eq_left hcd]
  cases c with
  | zero => simp
  | succ c =>
    rw [List.take_succ_cons, List.take_succ_cons]
    congr 1
    have e : without k m = without k l ++ without k (m.drop (c + 1)) := by
      unfold without
      rw [hl, ← List.filter_append, List.take_append_drop]
    rw [e]
    by_cases h : m.length ≤ c + 1
    · rw [List.drop_eq_nil_of_le h]
      simp [without]
    · have h1 : l.length = c + 1 := by rw [hl, List.length_take]; omega
      have h2 : (l.map (·.1)).Nodup := by rw [hl, List.map_take]; exact (List.take_sublist _ _).nodup hm
      have h3 := without_ge (k := k) h2
      rw [List.take_append_of_le_length (by omega)]
/-- Each value is its key's first part. -/
def Fst (l : List (κ × Int)) : Prop := ∀ r ∈ l, r.2 = r.1.1
theorem Fst.put {l : List (κ × Int)} (h : Fst l) (c : Nat) (k : κ) : Fst (putL c l k k.1) := fun r hr => by
  unfold putL at hr
  rcases List.mem_cons.1 (List.mem_of_mem_take hr) with rfl | hr
  · rfl
  · exact h r ((List.mem_filter.1 hr).1)
theorem Fst.got {l : List (κ × Int)} (h : Fst l) {k : κ} {v : Int} (hg : gotL l k = some v) : v = k.1 := by
  unfold gotL at hg
  obtain ⟨r, hr, rfl⟩ := Option.map_eq_some_iff.1 hg
  have h1 := List.find?_some hr
  have h2 := List.mem_of_find?_eq_some hr
  rw [h r h2]
  simp at h1
  rw [h1]
/-- What was got is put again. -/
theorem get_put {l : List (κ × Int)} (h : Fst l) {k : κ} {v : Int} {c : Nat} (hg : gotL l k = some v) (hc : l.length ≤ c) : getL l k = putL c l k k.1 := by
  rw [getL_some hg, h.got hg]
  unfold putL
  have hlt : (without k l).length < l.length := by
    unfold gotL at hg
    obtain ⟨r, hr, _⟩ := Option.map_eq_some_iff.1 hg
    have h1 := List.find?_some hr
    have h2 := List.mem_of_find?_eq_some hr
    unfold without
    rcases Nat.lt_or_ge (l.filter fun r => decide (r.1 ≠ k)).length l.length with h | h
    · exact h
    · have he : l.filter (fun r => decide (r.1 ≠ k)) = l := List.filter_eq_self.2 fun y hy => by
        have := (List.filter_sublist (p := fun r => decide (r.1 ≠ k)) (l := l)).eq_of_length (Nat.le_antisymm (List.length_filter_le _ _) h)
        rw [← this] at hy
        exact (List.mem_filter.1 hy).2
      have := List.filter_eq_self.1 he r h2
      simp at this h1
      exact absurd h1 this
  rw [List.take_of_length_le (by rw [List.length_cons]; omega)]
theorem got_take {c : Nat} {l m : List (κ × Int)} {k : κ} {v : Int} (hl : l = m.take c) (hg : gotL l k = some v) : gotL m k = some v := by
  have e : m = l ++ m.drop c := by rw [hl, List.take_append_drop]
  unfold gotL at hg ⊢
  obtain ⟨r, hr, hv⟩ := Option.map_eq_some_iff.1 hg
  rw [e, List.find?_append, hr]
  simpa using hv
end Go.Proofs.Ytafhgigkhbcnjaa.LU.K
