/- The mathematics of a heap in a list: what its calls make of it (as functions), that they keep its things and its order. -/
import Derived.Test.YtmfbeelnhihlaaaRows
namespace Go.Proofs.Ytmfbeelnhihlaaa
set_option linter.unusedVariables false
set_option linter.unusedSimpArgs false
section
variable {α : Type} (key : α → Int)
/-- The key at a place (0 where nothing stands). -/
def ky (L : List α) (i : Nat) : Int := match L[i]? with | some x => key x | none => 0
/-- Two places, exchanged. -/
def swp (L : List α) (i j : Nat) : List α := match L[i]?, L[j]? with | some x, some y => (L.set i y).set j x | _, _ => L
/-- Both stand there, and the first is less. -/
def lt2 (L : List α) (i j : Nat) : Bool := match L[i]?, L[j]? with | some x, some y => decide (key x < key y) | _, _ => false
def least1 (L : List α) (a : Nat) : Nat := if lt2 key L (2 * a + 1) a then 2 * a + 1 else a
def leastOf (L : List α) (a : Nat) : Nat := if lt2 key L (2 * a + 2) (least1 key L a) then 2 * a + 2 else least1 key L a
def sinkF : Nat → List α → Nat → List α
  | 0, L, _ => L
  | f + 1, L, a => if leastOf key L a = a then L else sinkF f (swp L a (leastOf key L a)) (leastOf key L a)
def riseF : Nat → List α → Nat → List α
  | 0, L, _ => L
  | f + 1, L, a => if a = 0 then L else if lt2 key L a ((a - 1) / 2) then riseF f (swp L a ((a - 1) / 2)) ((a - 1) / 2) else L
def heapF : Nat → List α → List α
  | 0, L => L
  | k + 1, L => heapF k (sinkF key L.length L k)
def ofF (L : List α) : List α := heapF key (L.length / 2) L
def pushF (L : List α) (x : α) : List α := riseF key (L.length + 1) (L ++ [x]) L.length
/-- What is left behind a Pop: the last thing stands first, and sinks. -/
def popF (L : List α) : List α := match L[L.length - 1]? with
  | some z => sinkF key (L.length - 1) ((L.set 0 z).take (L.length - 1)) 0
  | none => []
def HPf (L : List α) (k : Nat) : Prop := ∀ i, 0 < i → i < L.length → k ≤ (i - 1) / 2 → ky key L ((i - 1) / 2) ≤ ky key L i
theorem swp_length (L : List α) (i j : Nat) : (swp L i j).length = L.length := by
  unfold swp
  split <;> simp
theorem swp_eq {L : List α} {i j : Nat} {x y : α} (hi : L[i]? = some x) (hj : L[j]? = some y) : swp L i j = (L.set i y).set j x := by
  unfold swp
  rw [hi, hj]
theorem sinkF_length : ∀ (f : Nat) (L : List α) (a : Nat), (sinkF key f L a).length = L.length
  | 0, _, _ => rfl
  | f + 1, L, a => by
    unfold sinkF
    split
    · rfl
    · rw [sinkF_length f, swp_length]
theorem riseF_length : ∀ (f : Nat) (L : List α) (a : Nat), (riseF key f L a).length = L.length
  | 0, _, _ => rfl
  | f + 1, L, a => by
    unfold riseF
    split
    · rfl
    · split
      · rw [riseF_length f, swp_length]
      · rfl
theorem heapF_length : ∀ (k : Nat) (L : List α), (heapF key k L).length = L.length
  | 0, _ => rfl
  | k + 1, L => by
    unfold heapF
    rw [heapF_length k, sinkF_length]
theorem ofF_length (L : List α) : (ofF key L).length = L.length := heapF_length key _ L
theorem pushF_length (L : List α) (x : α) : (pushF key L x).length = L.length + 1 := by
  unfold pushF
  rw [riseF_length]
  simp
theorem popF_length (L : List α) : (popF key L).length = L.length - 1 := by
  unfold popF
  split
  · rw [sinkF_length]
    simp
  · rename_i h
    rw [List.getElem?_eq_none_iff] at h
    simp
    omega
theorem perm_set_set {L : List α} {i j : Nat} {x y : α} (hi : L[i]? = some x) (hj : L[j]? = some y) : ((L.set i y).set j x).Perm L := by
  induction L generalizing i j with
  | nil => simp at hi
  | cons z L ih =>
    cases i with
    | zero =>
      simp at hi
      subst hi
      cases j with
      | zero => simp at hj; subst hj; simp
      | succ j =>
        simp at hj
        have : ∀ {M : List α} {j : Nat} {y : α}, M[j]? = some y → (y :: M.set j z).Perm (z :: M) := by
          intro M
          induction M with
          | nil => intro j y h; simp at h
          | cons m M ih =>
            intro j y h
            cases j with
            | zero => simp at h; subst h; simpa using List.Perm.swap _ _ _
            | succ j =>
              simp at h
              have := ih h
              simp only [List.set_cons_succ]
              exact (List.Perm.swap _ _ _).trans ((this.cons m).trans (List.Perm.swap _ _ _))
        simpa using this hj
    | succ i =>
      simp at hi
      cases j with
      | zero =>
        simp at hj
        subst hj
        have : ∀ {M : List α} {j : Nat} {y : α}, M[j]? = some y → (y :: M.set j z).Perm (z :: M) := by
          intro M
          induction M with
          | nil => intro j y h; simp at h
          | cons m M ih =>
            intro j y h
            cases j with
            | zero => simp at h; subst h; simpa using List.Perm.swap _ _ _
            | succ j =>
              simp at h
              have := ih h
              simp only [List.set_cons_succ]
              exact (List.Perm.swap _ _ _).trans ((this.cons m).trans (List.Perm.swap _ _ _))
        simpa using this hi
      | succ j =>
        simp at hj
        simpa using (ih hi hj)
theorem swp_perm (L : List α) (i j : Nat) : (swp L i j).Perm L := by
  unfold swp
  split
  · rename_i h1 h2
    exact perm_set_set h1 h2
  · exact .refl _
theorem sinkF_perm : ∀ (f : Nat) (L : List α) (a : Nat), (sinkF key f L a).Perm L
  | 0, _, _ => .refl _
  | f + 1, L, a => by
    unfold sinkF
    split
    · exact .refl _
    · exact (sinkF_perm f _ _).trans (swp_perm _ _ _)
theorem riseF_perm : ∀ (f : Nat) (L : List α) (a : Nat), (riseF key f L a).Perm L
  | 0, _, _ => .refl _
  | f + 1, L, a => by
    unfold riseF
    split
    · exact .refl _
    · split
      · exact (riseF_perm f _ _).trans (swp_perm _ _ _)
      · exact .refl _
theorem heapF_perm : ∀ (k : Nat) (L : List α), (heapF key k L).Perm L
  | 0, _ => .refl _
  | k + 1, L => by
    unfold heapF
    exact (heapF_perm k _).trans (sinkF_perm _ _ _ _)
theorem ofF_perm (L : List α) : (ofF key L).Perm L := heapF_perm key _ L
theorem pushF_perm (L : List α) (x : α) : (pushF key L x).Perm (x :: L) := (riseF_perm key _ _ _).trans (List.perm_append_singleton x L)
theorem popF_perm {L : List α} {x : α} (h : L[0]? = some x) : (x :: popF key L).Perm L := by
  cases L with
  | nil => simp at h
  | cons z L =>
    simp at h
    subst h
    unfold popF
    rcases List.eq_nil_or_concat L with rfl | ⟨M, y, rfl⟩
    · simp [sinkF, leastOf, least1, lt2]
    · have h1 : (z :: (M ++ [y]))[(z :: (M ++ [y])).length - 1]? = some y := by simp
      simp only [List.concat_eq_append]
      rw [h1]
      simp only
      have h2 : ((z :: (M ++ [y])).set 0 y).take ((z :: (M ++ [y])).length - 1) = y :: M := by
        simp
      rw [h2]
      exact ((sinkF_perm key _ _ _).trans (List.perm_append_singleton y M).symm).cons z
theorem ky_swp {L : List α} {i j : Nat} (hi : i < L.length) (hj : j < L.length) (k : Nat) : ky key (swp L i j) k = if k = j then ky key L i else if k = i then ky key L j else ky key L k := by
  rw [swp_eq (List.getElem?_eq_getElem hi) (List.getElem?_eq_getElem hj)]
  unfold ky
  by_cases h1 : k = j
  · subst h1
    rw [List.getElem?_set_self (by simpa using hj), if_pos rfl, List.getElem?_eq_getElem hi]
  · rw [List.getElem?_set_ne (by omega), if_neg h1]
    by_cases h2 : k = i
    · subst h2
      rw [List.getElem?_set_self hi, if_pos rfl, List.getElem?_eq_getElem hj]
    · rw [List.getElem?_set_ne (by omega), if_neg h2]
theorem lt2_true {L : List α} {i j : Nat} (h : lt2 key L i j = true) : i < L.length ∧ j < L.length ∧ ky key L i < ky key L j := by
  unfold lt2 at h
  split at h
  · rename_i x y h1 h2
    refine ⟨(List.getElem?_eq_some_iff.1 h1).1, (List.getElem?_eq_some_iff.1 h2).1, ?_⟩
    unfold ky
    rw [h1, h2]
    simpa using h
  · cases h
theorem lt2_false {L : List α} {i j : Nat} (h : lt2 key L i j = false) (hi : i < L.length) (hj : j < L.length) : ky key L j ≤ ky key L i := by
  unfold lt2 at h
  rw [List.getElem?_eq_getElem hi, List.getElem?_eq_getElem hj] at h
  simp only [decide_eq_false_iff_not] at h
  unfold ky
  rw [List.getElem?_eq_getElem hi, List.getElem?_eq_getElem hj]
  simp only
  omega
theorem lt2_past {L : List α} {i j : Nat} (h : L.length ≤ i) : lt2 key L i j = false := by
  unfold lt2
  rw [List.getElem?_eq_none h]
theorem least1_cases (L : List α) (a : Nat) : (least1 key L a = a ∧ (2 * a + 1 < L.length → ky key L a ≤ ky key L (2 * a + 1))) ∨ (least1 key L a = 2 * a + 1 ∧ 2 * a + 1 < L.length ∧ ky key L (2 * a + 1) < ky key L a) := by
  unfold least1
  cases h : lt2 key L (2 * a + 1) a with
  | true => exact .inr ⟨by simp, (lt2_true key h).1, (lt2_true key h).2.2⟩
  | false => exact .inl ⟨by simp, fun hl => lt2_false key h hl (by omega)⟩
theorem leastOf_same {L : List α} {a : Nat} (h : leastOf key L a = a) : ∀ i, 0 < i → i < L.length → (i - 1) / 2 = a → ky key L a ≤ ky key L i := by
  intro i h0 hi hp
  have hi2 : i = 2 * a + 1 ∨ i = 2 * a + 2 := by omega
  unfold leastOf at h
  split at h
  · omega
  · rename_i hf
    simp only [Bool.not_eq_true] at hf
    rcases least1_cases key L a with ⟨h1, h2⟩ | ⟨h1, h2, h3⟩
    · rcases hi2 with rfl | rfl
      · exact h2 hi
      · rw [h1] at hf
        exact lt2_false key hf hi (by omega)
    · omega
theorem leastOf_other {L : List α} {a : Nat} (h : leastOf key L a ≠ a) : (leastOf key L a = 2 * a + 1 ∨ leastOf key L a = 2 * a + 2) ∧ leastOf key L a < L.length ∧ ky key L (leastOf key L a) < ky key L a ∧ ∀ i, 0 < i → i < L.length → (i - 1) / 2 = a → ky key L (leastOf key L a) ≤ ky key L i := by
  have hex : ∀ i, (i - 1) / 2 = a → 0 < i → i = 2 * a + 1 ∨ i = 2 * a + 2 := by intro i h1 h2; omega
  cases hs : lt2 key L (2 * a + 2) (least1 key L a) with
  | true =>
    have he : leastOf key L a = 2 * a + 2 := by unfold leastOf; rw [hs]; simp
    obtain ⟨g1, g2, g3⟩ := lt2_true key hs
    rw [he]
    rcases least1_cases key L a with ⟨h1, h2⟩ | ⟨h1, h2, h3⟩
    · rw [h1] at g3
      refine ⟨.inr rfl, g1, g3, fun i hi hl hp => ?_⟩
      rcases hex i hp hi with rfl | rfl
      · have := h2 hl; omega
      · omega
    · rw [h1] at g3
      refine ⟨.inr rfl, g1, by omega, fun i hi hl hp => ?_⟩
      rcases hex i hp hi with rfl | rfl <;> omega
  | false =>
    have he : leastOf key L a = least1 key L a := by unfold leastOf; rw [hs]; simp
    rw [he] at h ⊢
    rcases least1_cases key L a with ⟨h1, h2⟩ | ⟨h1, h2, h3⟩
    · exact absurd h1 h
    · rw [h1] at hs ⊢
      refine ⟨.inl rfl, h2, h3, fun i hi hl hp => ?_⟩
      rcases hex i hp hi with rfl | rfl
      · omega
      · exact lt2_false key hs hl h2
/-- The least one as far as j of the two below were asked. -/
def stg (L : List α) (a : Nat) : Nat → Nat
  | 0 => a
  | 1 => least1 key L a
  | _ => leastOf key L a
theorem stg_step {L : List α} {a j : Nat} (hj : j < 2) : stg key L a (j + 1) = if lt2 key L (2 * a + 1 + j) (stg key L a j) then 2 * a + 1 + j else stg key L a j := by
  have : j = 0 ∨ j = 1 := by omega
  rcases this with rfl | rfl
  · rfl
  · rfl
theorem stg_stop {L : List α} {a j : Nat} (hj : j ≤ 2) (h : j = 2 ∨ L.length ≤ 2 * a + 1 + j) : stg key L a j = leastOf key L a := by
  have : j = 0 ∨ j = 1 ∨ j = 2 := by omega
  rcases this with rfl | rfl | rfl
  · have h1 : stg key L a 1 = a := by
      show least1 key L a = a
      unfold least1
      rw [lt2_past key (by omega)]
      rfl
    show a = leastOf key L a
    unfold leastOf
    rw [show least1 key L a = a from h1, lt2_past key (by omega)]
    rfl
  · show least1 key L a = leastOf key L a
    unfold leastOf
    rw [lt2_past key (by omega)]
    rfl
  · rfl
theorem stg_lt {L : List α} {a j : Nat} (ha : a < L.length) (hj : j ≤ 2) : stg key L a j < L.length := by
  have : j = 0 ∨ j = 1 ∨ j = 2 := by omega
  have h1 : least1 key L a < L.length := by
    rcases least1_cases key L a with ⟨h, _⟩ | ⟨h, h2, _⟩ <;> omega
  rcases this with rfl | rfl | rfl
  · exact ha
  · exact h1
  · show leastOf key L a < L.length
    by_cases h : leastOf key L a = a
    · omega
    · exact (leastOf_other key h).2.1
/-- Amid sinking: all stand right but those below a. -/
def Snk (L : List α) (a k : Nat) : Prop :=
  (∀ i, 0 < i → i < L.length → k ≤ (i - 1) / 2 → (i - 1) / 2 ≠ a → ky key L ((i - 1) / 2) ≤ ky key L i) ∧
  (0 < a → k ≤ (a - 1) / 2 → ∀ i, 0 < i → i < L.length → (i - 1) / 2 = a → ky key L ((a - 1) / 2) ≤ ky key L i)
theorem sinkF_heap : ∀ (f : Nat) (L : List α) (a k : Nat), k ≤ a → L.length - a ≤ f → Snk key L a k → HPf key (sinkF key f L a) k
  | 0, L, a, k, hk, hf, h => by
    intro i h0 hi hp
    unfold sinkF at hi ⊢
    exact h.1 i h0 hi hp (by omega)
  | f + 1, L, a, k, hk, hf, h => by
    unfold sinkF
    split
    · rename_i he
      intro i h0 hi hp
      by_cases ha : (i - 1) / 2 = a
      · rw [ha]
        exact leastOf_same key he i h0 hi ha
      · exact h.1 i h0 hi hp ha
    · rename_i he
      obtain ⟨h1, h2, h3, h4⟩ := leastOf_other key he
      generalize leastOf key L a = m at *
      have hal : a < L.length := by omega
      have hma : (m - 1) / 2 = a := by omega
      refine sinkF_heap f (swp L a m) m k (by omega) (by rw [swp_length]; omega) ⟨?_, ?_⟩
      · intro i h0 hi hp hpm
        rw [swp_length] at hi
        rw [ky_swp key hal h2, ky_swp key hal h2, if_neg hpm]
        by_cases hpa : (i - 1) / 2 = a
        · rw [if_pos hpa]
          by_cases him : i = m
          · rw [if_pos him]; omega
          · rw [if_neg him, if_neg (by omega)]
            exact h4 i h0 hi hpa
        · rw [if_neg hpa]
          have him : i ≠ m := fun e => hpa (by rw [e]; exact hma)
          rw [if_neg him]
          by_cases hia : i = a
          · rw [if_pos hia]
            subst hia
            exact h.2 h0 hp m (by omega) h2 hma
          · rw [if_neg hia]
            exact h.1 i h0 hi hp hpa
      · intro hm0 hkp i h0 hi hp
        rw [swp_length] at hi
        rw [hma, ky_swp key hal h2, ky_swp key hal h2, if_neg (by omega), if_pos rfl, if_neg (by omega), if_neg (by omega)]
        have := h.1 i h0 hi (by omega) (by omega)
        rw [hp] at this
        exact this
theorem heapF_heap : ∀ (k : Nat) (L : List α), HPf key L k → HPf key (heapF key k L) 0
  | 0, L, h => h
  | k + 1, L, h => by
    unfold heapF
    refine heapF_heap k _ (sinkF_heap key _ L k k (Nat.le_refl _) (by omega) ⟨fun i h0 hi hp hpk => h i h0 hi (by omega), fun h0 hp => by omega⟩)
theorem ofF_heap (L : List α) : HPf key (ofF key L) 0 := heapF_heap key _ L (fun i h0 hi hp => by omega)
/-- Amid rising: all stand right but a itself. -/
def Rsn (L : List α) (a : Nat) : Prop :=
  (∀ i, 0 < i → i < L.length → i ≠ a → ky key L ((i - 1) / 2) ≤ ky key L i) ∧
  (0 < a → ∀ i, 0 < i → i < L.length → (i - 1) / 2 = a → ky key L ((a - 1) / 2) ≤ ky key L i)
theorem riseF_heap : ∀ (f : Nat) (L : List α) (a : Nat), a < f → a < L.length → Rsn key L a → HPf key (riseF key f L a) 0
  | 0, L, a, hf, hl, h => by omega
  | f + 1, L, a, hf, hl, h => by
    unfold riseF
    split
    · rename_i ha
      intro i h0 hi hp
      exact h.1 i h0 hi (by omega)
    · rename_i ha
      cases hlt : lt2 key L a ((a - 1) / 2) with
      | false =>
        simp only [Bool.false_eq_true, if_false]
        intro i h0 hi hp
        by_cases hia : i = a
        · subst hia
          exact lt2_false key hlt hi (by omega)
        · exact h.1 i h0 hi hia
      | true =>
        simp only [if_true]
        obtain ⟨_, hpl, hlt2⟩ := lt2_true key hlt
        obtain ⟨p, hp⟩ : ∃ p, p = (a - 1) / 2 := ⟨_, rfl⟩
        rw [← hp] at hpl hlt2 ⊢
        have hpa : p < a := by omega
        refine riseF_heap f (swp L a p) p (by omega) (by rw [swp_length]; exact hpl) ⟨?_, ?_⟩
        · intro i h0 hi hne
          rw [swp_length] at hi
          rw [ky_swp key hl hpl, ky_swp key hl hpl, if_neg hne]
          by_cases hia : i = a
          · have e1 : (i - 1) / 2 = p := by omega
            rw [if_pos hia, if_pos e1]
            omega
          · rw [if_neg hia]
            by_cases hip : (i - 1) / 2 = p
            · rw [if_pos hip]
              have := h.1 i h0 hi hia
              rw [hip] at this
              omega
            · rw [if_neg hip]
              by_cases hipa : (i - 1) / 2 = a
              · rw [if_pos hipa]
                have := h.2 (by omega) i h0 hi hipa
                rw [← hp] at this
                exact this
              · rw [if_neg hipa]
                exact h.1 i h0 hi hia
        · intro hp0 i h0 hi hip
          rw [swp_length] at hi
          have h5 := h.1 p hp0 (by omega) (by omega)
          rw [ky_swp key hl hpl, ky_swp key hl hpl, if_neg (by omega), if_neg (by omega), if_neg (by omega)]
          by_cases hia : i = a
          · rw [if_pos hia]
            exact h5
          · rw [if_neg hia]
            have h6 := h.1 i h0 hi hia
            rw [hip] at h6
            omega
theorem ky_append_left {L : List α} {x : α} {i : Nat} (h : i < L.length) : ky key (L ++ [x]) i = ky key L i := by
  unfold ky
  rw [List.getElem?_append_left h]
theorem pushF_heap {L : List α} (x : α) (h : HPf key L 0) : HPf key (pushF key L x) 0 := by
  unfold pushF
  refine riseF_heap key _ _ _ (by omega) (by simp) ⟨?_, ?_⟩
  · intro i h0 hi hne
    simp at hi
    rw [ky_append_left key (by omega), ky_append_left key (by omega)]
    exact h i h0 (by omega) (by omega)
  · intro h0 i h1 hi hp
    simp at hi
    omega
theorem popF_heap {L : List α} (h : HPf key L 0) : HPf key (popF key L) 0 := by
  unfold popF
  split
  · rename_i z hz
    refine sinkF_heap key _ _ 0 0 (Nat.le_refl _) (by simp) ⟨?_, fun h0 => by omega⟩
    intro i h0 hi hp hp0
    simp at hi
    have hk : ∀ j, 0 < j → j < L.length - 1 → ky key ((L.set 0 z).take (L.length - 1)) j = ky key L j := by
      intro j hj0 hj
      unfold ky
      rw [List.getElem?_take, if_pos hj, List.getElem?_set_ne (by omega)]
    rw [hk i h0 (by omega), hk _ (by omega) (by omega)]
    exact h i h0 (by omega) hp
  · intro i h0 hi
    simp at hi
theorem heap_least {L : List α} (h : HPf key L 0) : ∀ i, i < L.length → ky key L 0 ≤ ky key L i := by
  intro i
  induction i using Nat.strongRecOn with
  | _ i ih =>
    intro hi
    by_cases h0 : i = 0
    · rw [h0]; omega
    · have h1 := h i (by omega) hi (by omega)
      have h2 := ih ((i - 1) / 2) (by omega) (by omega)
      omega
theorem heap_least_mem {L : List α} {x : α} (h : HPf key L 0) (h0 : L[0]? = some x) : ∀ y ∈ L, key x ≤ key y := by
  intro y hy
  obtain ⟨i, hi, rfl⟩ := List.getElem_of_mem hy
  have := heap_least key h i hi
  unfold ky at this
  rw [h0, List.getElem?_eq_getElem hi] at this
  exact this
end
end Go.Proofs.Ytmfbeelnhihlaaa
