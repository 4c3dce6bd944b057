/- ClassesWhole: what a text's runs are made of: the mathematics. -/
import Derived.Test.YtddeamecgbdajaaDoorCRunMath
namespace Go.Proofs.YtddeamecgbdajaaDoor
open Go.RowKit
/-- How many bytes items have. -/
def wd (P : List It) : Nat := (P.map (fun x => x.bytes)).sum
def rb (x : It) : Nat × Bool := (x.rune, x.bad)
theorem wd_nil : wd [] = 0 := rfl
theorem wd_cons (x : It) (P : List It) : wd (x :: P) = x.bytes + wd P := by simp [wd]
theorem wd_append (P Q : List It) : wd (P ++ Q) = wd P + wd Q := by simp [wd]
theorem front_take_wid (l : List UInt8) (m : Nat) (hm : wid l ≤ m) : (front (l.take m)).2 = (front l).2 ∧ ((front l).2 = true → front (l.take m) = front l) := by
  by_cases h : (front l).2 = true
  · have hk : (front l).1 ≤ m := by unfold wid at hm; rw [if_pos h] at hm; exact hm
    have e : l.take m = l.take (front l).1 ++ (l.take m).drop (front l).1 := by
      have e1 := (List.take_append_drop (front l).1 (l.take m)).symm
      rw [List.take_take, Nat.min_eq_left hk] at e1
      exact e1
    have h2 := front_whole_take l h
    have h3 : front (l.take m) = front l := by rw [e, front_append _ _ (.inl (by rw [h2]; exact h)), h2]
    exact ⟨by rw [h3], fun _ => h3⟩
  · have hf : (front l).2 = false := by simpa using h
    refine ⟨?_, fun h' => absurd h' h⟩
    rw [hf]
    cases h' : (front (l.take m)).2 with
    | false => rfl
    | true =>
      have := front_append (l.take m) (l.drop m) (.inl h')
      rw [List.take_append_drop] at this
      rw [this, h'] at hf
      cases hf
theorem headIt_take (k k' : Nat) (l : List UInt8) (m : Nat) (hm : wid l ≤ m) : wid (l.take m) = wid l ∧ rb (headIt k (l.take m)) = rb (headIt k' l) := by
  obtain ⟨h1, h2⟩ := front_take_wid l m hm
  unfold wid headIt rb
  rw [h1]
  by_cases h : (front l).2 = true
  · have e := h2 h
    have hk : (front l).1 ≤ m := by unfold wid at hm; rw [if_pos h] at hm; exact hm
    rw [if_pos h, if_pos h, if_pos h, if_pos h, e]
    refine ⟨rfl, ?_⟩
    have r1 := rn_take (l.take m) (by rw [e]; exact h)
    rw [e, List.take_take, Nat.min_eq_left hk, rn_take l h] at r1
    simp only [r1]
  · rw [if_neg h, if_neg h, if_neg h, if_neg h]
    exact ⟨rfl, rfl⟩
theorem take_items (l : List UInt8) : ∀ j k k', (items k (l.take (wd ((items k' l).take j)))).map rb = ((items k' l).map rb).take j := by
  refine bytes_ind (p := fun l => ∀ j k k', (items k (l.take (wd ((items k' l).take j)))).map rb = ((items k' l).map rb).take j) (fun j k k' => by simp [items_nil]) (fun l h ih j k k' => ?_) l
  cases j with
  | zero => simp [wd_nil, items_nil]
  | succ j =>
    rw [items_cons k' l h, List.take_succ_cons, wd_cons, headIt_bytes]
    obtain ⟨W, hW⟩ : ∃ W, W = wd ((items (k' + wid l) (l.drop (wid l))).take j) := ⟨_, rfl⟩
    have hi := ih _ (drop_wid_lt l h) j (k + wid l) (k' + wid l)
    rw [← hW] at hi ⊢
    obtain ⟨e1, e2⟩ := headIt_take k k' l (wid l + W) (Nat.le_add_right _ _)
    have hne : l.take (wid l + W) ≠ [] := by
      intro e
      have h3 := congrArg List.length e
      have := List.length_pos_iff.2 h
      have := wid_pos l
      rw [List.length_take, List.length_nil] at h3
      omega
    rw [items_cons k _ hne, e1, List.drop_take, Nat.add_sub_cancel_left, List.map_cons, List.map_cons, List.take_succ_cons, e2, hi]
theorem items_drop (l : List UInt8) : ∀ j k, j ≤ (items k l).length → (items k l).drop j = items (k + wd ((items k l).take j)) (l.drop (wd ((items k l).take j))) := by
  refine bytes_ind (p := fun l => ∀ j k, j ≤ (items k l).length → (items k l).drop j = items (k + wd ((items k l).take j)) (l.drop (wd ((items k l).take j)))) (fun j k _ => by simp [items_nil]) (fun l h ih j k hj => ?_) l
  cases j with
  | zero => simp [wd_nil]
  | succ j =>
    rw [items_cons k l h] at hj ⊢
    have hi := ih _ (drop_wid_lt l h) j (k + wid l) (by simpa using hj)
    rw [List.drop_succ_cons, List.take_succ_cons, wd_cons, headIt_bytes, hi, List.drop_drop, Nat.add_assoc]
theorem items_wd (l : List UInt8) : ∀ k, wd (items k l) = l.length := by
  refine bytes_ind (p := fun l => ∀ k, wd (items k l) = l.length) (fun k => rfl) (fun l h ih k => ?_) l
  have h1 := wid_le l h
  rw [items_cons k l h, wd_cons, headIt_bytes, ih _ (drop_wid_lt l h)]
  simp
  omega
theorem items_pos (l : List UInt8) : ∀ k, ∀ x ∈ items k l, 1 ≤ x.bytes := by
  refine bytes_ind (p := fun l => ∀ k, ∀ x ∈ items k l, 1 ≤ x.bytes) (fun k x hx => by simp [items_nil] at hx) (fun l h ih k x hx => ?_) l
  rw [items_cons k l h] at hx
  rcases List.mem_cons.1 hx with rfl | hx
  · rw [headIt_bytes]; exact wid_pos l
  · exact ih _ (drop_wid_lt l h) _ x hx
theorem items_at (l : List UInt8) (k i : Nat) (x : It) (hx : (items k l)[i]? = some x) : x.frm = k + wd ((items k l).take i) := by
  have hi := (List.getElem?_eq_some_iff.1 hx).1
  have h1 := items_drop l i k (by omega)
  have h2 : ((items k l).drop i)[0]? = some x := by simpa using hx
  rw [h1] at h2
  by_cases h : l.drop (wd ((items k l).take i)) = []
  · rw [h] at h2; simp [items_nil] at h2
  · rw [items_cons _ _ h] at h2
    have : headIt (k + wd ((items k l).take i)) (l.drop (wd ((items k l).take i))) = x := by simpa using h2
    rw [← this, headIt_frm]
theorem wd_take_add (P : List It) (i d : Nat) : wd (P.take (i + d)) = wd (P.take i) + wd ((P.drop i).take d) := by
  rw [List.take_add, wd_append]
theorem wd_pos {P : List It} (hp : ∀ x ∈ P, 1 ≤ x.bytes) {i d : Nat} (hd : 0 < d) (hi : i < P.length) : 0 < wd ((P.drop i).take d) := by
  obtain ⟨d, rfl⟩ : ∃ e, d = e + 1 := ⟨d - 1, by omega⟩
  rw [List.drop_eq_getElem_cons hi, List.take_succ_cons, wd_cons]
  have := hp _ (List.getElem_mem hi)
  omega
/-- The items of a part, from item i to item j. -/
theorem part_items (l : List UInt8) (i j : Nat) (hij : i ≤ j) (hj : j ≤ (items 0 l).length) :
    (items 0 ((l.drop (wd ((items 0 l).take i))).take (wd ((items 0 l).take j) - wd ((items 0 l).take i)))).map rb = (((items 0 l).map rb).drop i).take (j - i) := by
  have h1 := items_drop l i 0 (by omega)
  obtain ⟨d, rfl⟩ : ∃ d, j = i + d := ⟨j - i, by omega⟩
  rw [wd_take_add, Nat.add_sub_cancel_left, Nat.add_sub_cancel_left, ← List.map_drop, h1]
  exact take_items _ d 0 _
def endR (pre : List Rn) : Nat := match pre.getLast? with | none => 0 | some y => y.too
def lastK (pre : List Rn) : Nat := match pre.getLast? with | none => 0 | some y => y.kd
theorem endR_nil : endR [] = 0 := rfl
theorem lastK_nil : lastK [] = 0 := rfl
theorem endR_snoc (pre : List Rn) (x : Rn) : endR (pre ++ [x]) = x.too := by simp [endR]
theorem lastK_snoc (pre : List Rn) (x : Rn) : lastK (pre ++ [x]) = x.kd := by simp [lastK]
/-- A run of the items I, behind the runs pre. -/
def RunOf (kf : It → Nat) (I : List It) (pre : List Rn) (x : Rn) : Prop :=
  ∃ i j, i < j ∧ j ≤ I.length ∧ x.frm = wd (I.take i) ∧ x.too = wd (I.take j) ∧ x.n = j - i ∧ (∀ q y, i ≤ q → q < j → I[q]? = some y → kf y = x.kd) ∧ x.frm = endR pre ∧ x.kd ≠ lastK pre
/-- The run under way. -/
def Under (kf : It → Nat) (I : List It) (m : Nat) (st : List Rn × Rn) : Prop :=
  (m = 0 ∧ st = ([], ⟨0, 0, 0, 0⟩)) ∨ ∃ i, i < m ∧ st.2.frm = wd (I.take i) ∧ st.2.n = m - i ∧ (∀ q y, i ≤ q → q < m → I[q]? = some y → kf y = st.2.kd) ∧ st.2.frm = endR st.1 ∧ st.2.kd ≠ lastK st.1
def Gone (kf : It → Nat) (I : List It) (L : List Rn) : Prop := ∀ pre x, pre ++ [x] <+: L → RunOf kf I pre x
theorem Gone.snoc {kf : It → Nat} {I : List It} {L : List Rn} (h : Gone kf I L) {y : Rn} (hy : RunOf kf I L y) : Gone kf I (L ++ [y]) := fun pre x hp => by
  rcases List.prefix_concat_iff.1 hp with e | hp
  · obtain ⟨rfl, e2⟩ := List.append_inj' e rfl
    have : x = y := by simpa using e2
    subst this
    exact hy
  · exact h pre x hp
theorem under_step (kf : It → Nat) (hk : ∀ y, kf y ≠ 0) (I : List It) (hat : ∀ i y, I[i]? = some y → y.frm = wd (I.take i)) (m : Nat) (hm : m ≤ I.length) :
    Gone kf I (stL ((I.take m).map fun x => (x.frm, kf x))).1 ∧ Under kf I m (stL ((I.take m).map fun x => (x.frm, kf x))) := by
  induction m with
  | zero => exact ⟨fun pre x hp => by simp [stL] at hp, .inl ⟨rfl, rfl⟩⟩
  | succ m ih =>
    obtain ⟨h1, h2⟩ := ih (by omega)
    have hlt : m < I.length := by omega
    have hx : I[m]? = some I[m] := List.getElem?_eq_getElem hlt
    have e : (I.take (m + 1)).map (fun x => (x.frm, kf x)) = (I.take m).map (fun x => (x.frm, kf x)) ++ [(I[m].frm, kf I[m])] := by
      rw [List.take_add_one, hx, List.map_append]
      rfl
    rw [e, stL_snoc]
    have hf := hat m _ hx
    have hk0 := hk I[m]
    generalize hy : I[m] = y at *
    generalize stL ((I.take m).map fun x => (x.frm, kf x)) = st at *
    obtain ⟨L, r⟩ := st
    unfold stp
    rcases h2 with ⟨rfl, h2⟩ | ⟨i, hi, g1, g2, g3, g4, g5⟩
    · obtain ⟨rfl, rfl⟩ := Prod.mk.inj h2
      simp only [if_neg hk0, Nat.lt_irrefl, if_false]
      refine ⟨h1, .inr ⟨0, by omega, ?_, rfl, ?_, ?_, ?_⟩⟩
      · exact hf
      · intro q u h3 h4 h5
        have : q = 0 := by omega
        subst this
        rw [hx] at h5
        cases h5
        rfl
      · show y.frm = 0
        rw [hf]
        rfl
      · exact hk0
    · simp only at g1 g2 g3 g4 g5 h1
      by_cases hkd : kf y = r.kd
      · simp only [if_pos hkd]
        refine ⟨h1, .inr ⟨i, by omega, g1, ?_, ?_, g4, g5⟩⟩
        · show r.n + 1 = m + 1 - i
          omega
        · intro q u h3 h4 h5
          by_cases hq : q = m
          · subst hq
            rw [hx] at h5
            cases h5
            exact hkd
          · exact g3 q u h3 (by omega) h5
      · have hn : 0 < r.n := by omega
        simp only [if_neg hkd, if_pos hn]
        refine ⟨h1.snoc ⟨i, m, hi, by omega, g1, hf, g2, g3, g4, g5⟩, .inr ⟨m, by omega, hf, ?_, ?_, ?_, ?_⟩⟩
        · show 1 = m + 1 - m
          omega
        · intro q u h3 h4 h5
          have : q = m := by omega
          subst this
          rw [hx] at h5
          cases h5
          rfl
        · rw [endR_snoc]
        · rw [lastK_snoc]
          exact hkd
theorem runs_past (kf : It → Nat) (hk : ∀ y, kf y ≠ 0) (l : List UInt8) :
    Gone kf (items 0 l) (runsL ((items 0 l).map fun x => (x.frm, kf x)) l.length) ∧ endR (runsL ((items 0 l).map fun x => (x.frm, kf x)) l.length) = l.length := by
  have h := under_step kf hk (items 0 l) (fun i y hy => by rw [items_at l 0 i y hy, Nat.zero_add]) (items 0 l).length (Nat.le_refl _)
  have hw := items_wd l 0
  rw [List.take_length] at h
  unfold runsL finL
  obtain ⟨h1, h2⟩ := h
  generalize stL ((items 0 l).map fun x => (x.frm, kf x)) = st at *
  obtain ⟨L, r⟩ := st
  rcases h2 with ⟨h0, h2⟩ | ⟨i, hi, g1, g2, g3, g4, g5⟩
  · obtain ⟨rfl, rfl⟩ := Prod.mk.inj h2
    rw [List.length_eq_zero_iff] at h0
    rw [h0] at hw
    simp only [Nat.lt_irrefl, if_false]
    exact ⟨h1, hw⟩
  · simp only at g1 g2 g3 g4 g5 h1
    have hn : 0 < r.n := by omega
    simp only [if_pos hn]
    refine ⟨h1.snoc ⟨i, (items 0 l).length, hi, Nat.le_refl _, g1, ?_, g2, g3, g4, g5⟩, endR_snoc _ _⟩
    rw [List.take_length]
    exact hw.symm
/-- What the law asks of a run. -/
structure RunGood (kf : Nat × Bool → Nat) (l : List UInt8) (pre : List Rn) (x : Rn) : Prop where
  frm : x.frm = endR pre
  lt : x.frm < x.too
  le : x.too ≤ l.length
  kd : x.kd ≠ lastK pre
  n : (items 0 ((l.drop x.frm).take (x.too - x.frm))).length = x.n
  all : ∀ it ∈ items 0 ((l.drop x.frm).take (x.too - x.frm)), kf (rb it) = x.kd
theorem runs_good (kf : Nat × Bool → Nat) (hk : ∀ y, kf y ≠ 0) (l : List UInt8) {pre : List Rn} {x : Rn} (h : pre ++ [x] <+: runsL ((items 0 l).map fun x => (x.frm, kf (rb x))) l.length) : RunGood kf l pre x := by
  obtain ⟨i, j, h1, h2, h3, h4, h5, h6, h7, h8⟩ := (runs_past (fun y => kf (rb y)) (fun y => hk _) l).1 pre x h
  have hp := part_items l i j (by omega) h2
  rw [← h3, ← h4] at hp
  have hw := wd_take_add (items 0 l) i (j - i)
  rw [show i + (j - i) = j by omega] at hw
  have hpos := wd_pos (items_pos l 0) (i := i) (d := j - i) (by omega) (by omega)
  have hall := wd_take_add (items 0 l) j ((items 0 l).length - j)
  rw [show j + ((items 0 l).length - j) = (items 0 l).length by omega, List.take_length, items_wd] at hall
  refine ⟨h7, by omega, by omega, h8, ?_, ?_⟩
  · have := congrArg List.length hp
    simp only [List.length_map, List.length_take, List.length_drop] at this
    omega
  · intro it hit
    have hm : rb it ∈ (((items 0 l).map rb).drop i).take (j - i) := by
      rw [← hp]
      exact List.mem_map_of_mem hit
    obtain ⟨q, hq⟩ := List.mem_iff_getElem?.1 hm
    have hq1 := (List.getElem?_eq_some_iff.1 hq).1
    simp only [List.length_take, List.length_drop, List.length_map] at hq1
    rw [List.getElem?_take_of_lt (by omega), List.getElem?_drop, List.getElem?_map] at hq
    obtain ⟨y, hy, he⟩ := Option.map_eq_some_iff.1 hq
    rw [← he]
    exact h6 (i + q) y (by omega) (by omega) hy
end Go.Proofs.YtddeamecgbdajaaDoor
