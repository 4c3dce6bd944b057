import Derived.Test.YtjbdhakogbolkaaDoorRows
import Derived.WalkKit
import Derived.ProofKit
import Derived.Below
import Derived.OpenShut
import Derived.WalkSpells
import Derived.WalkLawsBesides
import Derived.Defers
import Derived.Recover
import Derived.Deep.QuietTactic
import Derived.BigQuiet
import Derived.Laws.StructEq
import Derived.Laws.OwnMore
import Derived.Laws.EntriesVeiled
import Derived.Laws.AppendOwn
import Derived.Lib.SmallJoins
import Derived.OneCell
import Derived.Test.YtjbdhakogbolkaaDoorProg
import Derived.OrdersHeld
section
/- The mathematics of a heap in a list: what its calls make of it (as functions), that they keep its things and its order. -/
namespace Go.Proofs.YtjbdhakogbolkaaDoor
set_option linter.unusedVariables false
set_option linter.unusedSimpArgs false
section
variable {α : Type} (key : α → Int)
/-- The key at a place (0 where nothing stands). -/
def ky (L : List α) (i : Nat) : Int := match L[i]? with | some x => key x | none => 0
/-- Two places, exchanged. -/
def swp (L : List α) (i j : Nat) : List α := match L[i]?, L[j]? with | some x, some y => (L.set i y).set j x | _, _ => L
/-- Both stand there, and the first is less. -/
def lt2 (L : List α) (i j : Nat) : Bool := match L[i]?, L[j]? with | some x, some y => decide (key x < key y) | _, _ => false
def least1 (L : List α) (a : Nat) : Nat := if lt2 key L (2 * a + 1) a then 2 * a + 1 else a
def leastOf (L : List α) (a : Nat) : Nat := if lt2 key L (2 * a + 2) (least1 key L a) then 2 * a + 2 else least1 key L a
def sinkF : Nat → List α → Nat → List α
  | 0, L, _ => L
  | f + 1, L, a => if leastOf key L a = a then L else sinkF f (swp L a (leastOf key L a)) (leastOf key L a)
def riseF : Nat → List α → Nat → List α
  | 0, L, _ => L
  | f + 1, L, a => if a = 0 then L else if lt2 key L a ((a - 1) / 2) then riseF f (swp L a ((a - 1) / 2)) ((a - 1) / 2) else L
def heapF : Nat → List α → List α
  | 0, L => L
  | k + 1, L => heapF k (sinkF key L.length L k)
def ofF (L : List α) : List α := heapF key (L.length / 2) L
def pushF (L : List α) (x : α) : List α := riseF key (L.length + 1) (L ++ [x]) L.length
/-- What is left behind a Pop: the last thing stands first, and sinks. -/
def popF (L : List α) : List α := match L[L.length - 1]? with
  | some z => sinkF key (L.length - 1) ((L.set 0 z).take (L.length - 1)) 0
  | none => []
def HPf (L : List α) (k : Nat) : Prop := ∀ i, 0 < i → i < L.length → k ≤ (i - 1) / 2 → ky key L ((i - 1) / 2) ≤ ky key L i
theorem swp_length (L : List α) (i j : Nat) : (swp L i j).length = L.length := by
  unfold swp
  split <;> simp
theorem swp_eq {L : List α} {i j : Nat} {x y : α} (hi : L[i]? = some x) (hj : L[j]? = some y) : swp L i j = (L.set i y).set j x := by
  unfold swp
  rw [hi, hj]
theorem sinkF_length : ∀ (f : Nat) (L : List α) (a : Nat), (sinkF key f L a).length = L.length
  | 0, _, _ => rfl
  | f + 1, L, a => by
    unfold sinkF
    split
    · rfl
    · rw [sinkF_length f, swp_length]
theorem riseF_length : ∀ (f : Nat) (L : List α) (a : Nat), (riseF key f L a).length = L.length
  | 0, _, _ => rfl
  | f + 1, L, a => by
    unfold riseF
    split
    · rfl
    · split
      · rw [riseF_length f, swp_length]
      · rfl
theorem heapF_length : ∀ (k : Nat) (L : List α), (heapF key k L).length = L.length
  | 0, _ => rfl
  | k + 1, L => by
    unfold heapF
    rw [heapF_length k, sinkF_length]
theorem ofF_length (L : List α) : (ofF key L).length = L.length := heapF_length key _ L
theorem pushF_length (L : List α) (x : α) : (pushF key L x).length = L.length + 1 := by
  unfold pushF
  rw [riseF_length]
  simp
theorem popF_length (L : List α) : (popF key L).length = L.length - 1 := by
  unfold popF
  split
  · rw [sinkF_length]
    simp
  · rename_i h
    rw [List.getElem?_eq_none_iff] at h
    simp
    omega
theorem perm_set_set {L : List α} {i j : Nat} {x y : α} (hi : L[i]? = some x) (hj : L[j]? = some y) : ((L.set i y).set j x).Perm L := by
  induction L generalizing i j with
  | nil => simp at hi
  | cons z L ih =>
    cases i with
    | zero =>
      simp at hi
      subst hi
      cases j with
      | zero => simp at hj; subst hj; simp
      | succ j =>
        simp at hj
        have : ∀ {M : List α} {j : Nat} {y : α}, M[j]? = some y → (y :: M.set j z).Perm (z :: M) := by
          intro M
          induction M with
          | nil => intro j y h; simp at h
          | cons m M ih =>
            intro j y h
            cases j with
            | zero => simp at h; subst h; simpa using List.Perm.swap _ _ _
            | succ j =>
              simp at h
              have := ih h
              simp only [List.set_cons_succ]
              exact (List.Perm.swap _ _ _).trans ((this.cons m).trans (List.Perm.swap _ _ _))
        simpa using this hj
    | succ i =>
      simp at hi
      cases j with
      | zero =>
        simp at hj
        subst hj
        have : ∀ {M : List α} {j : Nat} {y : α}, M[j]? = some y → (y :: M.set j z).Perm (z :: M) := by
          intro M
          induction M with
          | nil => intro j y h; simp at h
          | cons m M ih =>
            intro j y h
            cases j with
            | zero => simp at h; subst h; simpa using List.Perm.swap _ _ _
            | succ j =>
              simp at h
              have := ih h
              simp only [List.set_cons_succ]
              exact (List.Perm.swap _ _ _).trans ((this.cons m).trans (List.Perm.swap _ _ _))
        simpa using this hi
      | succ j =>
        simp at hj
        simpa using (ih hi hj)
theorem swp_perm (L : List α) (i j : Nat) : (swp L i j).Perm L := by
  unfold swp
  split
  · rename_i h1 h2
    exact perm_set_set h1 h2
  · exact .refl _
theorem sinkF_perm : ∀ (f : Nat) (L : List α) (a : Nat), (sinkF key f L a).Perm L
  | 0, _, _ => .refl _
  | f + 1, L, a => by
    unfold sinkF
    split
    · exact .refl _
    · exact (sinkF_perm f _ _).trans (swp_perm _ _ _)
theorem riseF_perm : ∀ (f : Nat) (L : List α) (a : Nat), (riseF key f L a).Perm L
  | 0, _, _ => .refl _
  | f + 1, L, a => by
    unfold riseF
    split
    · exact .refl _
    · split
      · exact (riseF_perm f _ _).trans (swp_perm _ _ _)
      · exact .refl _
theorem heapF_perm : ∀ (k : Nat) (L : List α), (heapF key k L).Perm L
  | 0, _ => .refl _
  | k + 1, L => by
    unfold heapF
    exact (heapF_perm k _).trans (sinkF_perm _ _ _ _)
theorem ofF_perm (L : List α) : (ofF key L).Perm L := heapF_perm key _ L
theorem pushF_perm (L : List α) (x : α) : (pushF key L x).Perm (x :: L) := (riseF_perm key _ _ _).trans (List.perm_append_singleton x L)
theorem popF_perm {L : List α} {x : α} (h : L[0]? = some x) : (x :: popF key L).Perm L := by
  cases L with
  | nil => simp at h
  | cons z L =>
    simp at h
    subst h
    unfold popF
    rcases List.eq_nil_or_concat L with rfl | ⟨M, y, rfl⟩
    · simp [sinkF, leastOf, least1, lt2]
    · have h1 : (z :: (M ++ [y]))[(z :: (M ++ [y])).length - 1]? = some y := by simp
      simp only [List.concat_eq_append]
      rw [h1]
      simp only
      have h2 : ((z :: (M ++ [y])).set 0 y).take ((z :: (M ++ [y])).length - 1) = y :: M := by
        simp
      rw [h2]
      exact ((sinkF_perm key _ _ _).trans (List.perm_append_singleton y M).symm).cons z
theorem ky_swp {L : List α} {i j : Nat} (hi : i < L.length) (hj : j < L.length) (k : Nat) : ky key (swp L i j) k = if k = j then ky key L i else if k = i then ky key L j else ky key L k := by
  rw [swp_eq (List.getElem?_eq_getElem hi) (List.getElem?_eq_getElem hj)]
  unfold ky
  by_cases h1 : k = j
  · subst h1
    rw [List.getElem?_set_self (by simpa using hj), if_pos rfl, List.getElem?_eq_getElem hi]
  · rw [List.getElem?_set_ne (by omega), if_neg h1]
    by_cases h2 : k = i
    · subst h2
      rw [List.getElem?_set_self hi, if_pos rfl, List.getElem?_eq_getElem hj]
    · rw [List.getElem?_set_ne (by omega), if_neg h2]
theorem lt2_true {L : List α} {i j : Nat} (h : lt2 key L i j = true) : i < L.length ∧ j < L.length ∧ ky key L i < ky key L j := by
  unfold lt2 at h
  split at h
  · rename_i x y h1 h2
    refine ⟨(List.getElem?_eq_some_iff.1 h1).1, (List.getElem?_eq_some_iff.1 h2).1, ?_⟩
    unfold ky
    rw [h1, h2]
    simpa using h
  · cases h
theorem lt2_false {L : List α} {i j : Nat} (h : lt2 key L i j = false) (hi : i < L.length) (hj : j < L.length) : ky key L j ≤ ky key L i := by
  unfold lt2 at h
  rw [List.getElem?_eq_getElem hi, List.getElem?_eq_getElem hj] at h
  simp only [decide_eq_false_iff_not] at h
  unfold ky
  rw [List.getElem?_eq_getElem hi, List.getElem?_eq_getElem hj]
  simp only
  omega
theorem lt2_past {L : List α} {i j : Nat} (h : L.length ≤ i) : lt2 key L i j = false := by
  unfold lt2
  rw [List.getElem?_eq_none h]
theorem least1_cases (L : List α) (a : Nat) : (least1 key L a = a ∧ (2 * a + 1 < L.length → ky key L a ≤ ky key L (2 * a + 1))) ∨ (least1 key L a = 2 * a + 1 ∧ 2 * a + 1 < L.length ∧ ky key L (2 * a + 1) < ky key L a) := by
  unfold least1
  cases h : lt2 key L (2 * a + 1) a with
  | true => exact .inr ⟨by simp, (lt2_true key h).1, (lt2_true key h).2.2⟩
  | false => exact .inl ⟨by simp, fun hl => lt2_false key h hl (by omega)⟩
theorem leastOf_same {L : List α} {a : Nat} (h : leastOf key L a = a) : ∀ i, 0 < i → i < L.length → (i - 1) / 2 = a → ky key L a ≤ ky key L i := by
  intro i h0 hi hp
  have hi2 : i = 2 * a + 1 ∨ i = 2 * a + 2 := by omega
  unfold leastOf at h
  split at h
  · omega
  · rename_i hf
    simp only [Bool.not_eq_true] at hf
    rcases least1_cases key L a with ⟨h1, h2⟩ | ⟨h1, h2, h3⟩
    · rcases hi2 with rfl | rfl
      · exact h2 hi
      · rw [h1] at hf
        exact lt2_false key hf hi (by omega)
    · omega
theorem leastOf_other {L : List α} {a : Nat} (h : leastOf key L a ≠ a) : (leastOf key L a = 2 * a + 1 ∨ leastOf key L a = 2 * a + 2) ∧ leastOf key L a < L.length ∧ ky key L (leastOf key L a) < ky key L a ∧ ∀ i, 0 < i → i < L.length → (i - 1) / 2 = a → ky key L (leastOf key L a) ≤ ky key L i := by
  have hex : ∀ i, (i - 1) / 2 = a → 0 < i → i = 2 * a + 1 ∨ i = 2 * a + 2 := by intro i h1 h2; omega
  cases hs : lt2 key L (2 * a + 2) (least1 key L a) with
  | true =>
    have he : leastOf key L a = 2 * a + 2 := by unfold leastOf; rw [hs]; simp
    obtain ⟨g1, g2, g3⟩ := lt2_true key hs
    rw [he]
    rcases least1_cases key L a with ⟨h1, h2⟩ | ⟨h1, h2, h3⟩
    · rw [h1] at g3
      refine ⟨.inr rfl, g1, g3, fun i hi hl hp => ?_⟩
      rcases hex i hp hi with rfl | rfl
      · have := h2 hl; omega
      · omega
    · rw [h1] at g3
      refine ⟨.inr rfl, g1, by omega, fun i hi hl hp => ?_⟩
      rcases hex i hp hi with rfl | rfl <;> omega
  | false =>
    have he : leastOf key L a = least1 key L a := by unfold leastOf; rw [hs]; simp
    rw [he] at h ⊢
    rcases least1_cases key L a with ⟨h1, h2⟩ | ⟨h1, h2, h3⟩
    · exact absurd h1 h
    · rw [h1] at hs ⊢
      refine ⟨.inl rfl, h2, h3, fun i hi hl hp => ?_⟩
      rcases hex i hp hi with rfl | rfl
      · omega
      · exact lt2_false key hs hl h2
/-- The least one as far as j of the two below were asked. -/
def stg (L : List α) (a : Nat) : Nat → Nat
  | 0 => a
  | 1 => least1 key L a
  | _ => leastOf key L a
theorem stg_step {L : List α} {a j : Nat} (hj : j < 2) : stg key L a (j + 1) = if lt2 key L (2 * a + 1 + j) (stg key L a j) then 2 * a + 1 + j else stg key L a j := by
  have : j = 0 ∨ j = 1 := by omega
  rcases this with rfl | rfl
  · rfl
  · rfl
theorem stg_stop {L : List α} {a j : Nat} (hj : j ≤ 2) (h : j = 2 ∨ L.length ≤ 2 * a + 1 + j) : stg key L a j = leastOf key L a := by
  have : j = 0 ∨ j = 1 ∨ j = 2 := by omega
  rcases this with rfl | rfl | rfl
  · have h1 : stg key L a 1 = a := by
      show least1 key L a = a
      unfold least1
      rw [lt2_past key (by omega)]
      rfl
    show a = leastOf key L a
    unfold leastOf
    rw [show least1 key L a = a from h1, lt2_past key (by omega)]
    rfl
  · show least1 key L a = leastOf key L a
    unfold leastOf
    rw [lt2_past key (by omega)]
    rfl
  · rfl
theorem stg_lt {L : List α} {a j : Nat} (ha : a < L.length) (hj : j ≤ 2) : stg key L a j < L.length := by
  have : j = 0 ∨ j = 1 ∨ j = 2 := by omega
  have h1 : least1 key L a < L.length := by
    rcases least1_cases key L a with ⟨h, _⟩ | ⟨h, h2, _⟩ <;> omega
  rcases this with rfl | rfl | rfl
  · exact ha
  · exact h1
  · show leastOf key L a < L.length
    by_cases h : leastOf key L a = a
    · omega
    · exact (leastOf_other key h).2.1
/-- Amid sinking: all stand right but those below a. -/
def Snk (L : List α) (a k : Nat) : Prop :=
  (∀ i, 0 < i → i < L.length → k ≤ (i - 1) / 2 → (i - 1) / 2 ≠ a → ky key L ((i - 1) / 2) ≤ ky key L i) ∧
  (0 < a → k ≤ (a - 1) / 2 → ∀ i, 0 < i → i < L.length → (i - 1) / 2 = a → ky key L ((a - 1) / 2) ≤ ky key L i)
theorem sinkF_heap : ∀ (f : Nat) (L : List α) (a k : Nat), k ≤ a → L.length - a ≤ f → Snk key L a k → HPf key (sinkF key f L a) k
  | 0, L, a, k, hk, hf, h => by
    intro i h0 hi hp
    unfold sinkF at hi ⊢
    exact h.1 i h0 hi hp (by omega)
  | f + 1, L, a, k, hk, hf, h => by
    unfold sinkF
    split
    · rename_i he
      intro i h0 hi hp
      by_cases ha : (i - 1) / 2 = a
      · rw [ha]
        exact leastOf_same key he i h0 hi ha
      · exact h.1 i h0 hi hp ha
    · rename_i he
      obtain ⟨h1, h2, h3, h4⟩ := leastOf_other key he
      generalize leastOf key L a = m at *
      have hal : a < L.length := by omega
      have hma : (m - 1) / 2 = a := by omega
      refine sinkF_heap f (swp L a m) m k (by omega) (by rw [swp_length]; omega) ⟨?_, ?_⟩
      · intro i h0 hi hp hpm
        rw [swp_length] at hi
        rw [ky_swp key hal h2, ky_swp key hal h2, if_neg hpm]
        by_cases hpa : (i - 1) / 2 = a
        · rw [if_pos hpa]
          by_cases him : i = m
          · rw [if_pos him]; omega
          · rw [if_neg him, if_neg (by omega)]
            exact h4 i h0 hi hpa
        · rw [if_neg hpa]
          have him : i ≠ m := fun e => hpa (by rw [e]; exact hma)
          rw [if_neg him]
          by_cases hia : i = a
          · rw [if_pos hia]
            subst hia
            exact h.2 h0 hp m (by omega) h2 hma
          · rw [if_neg hia]
            exact h.1 i h0 hi hp hpa
      · intro hm0 hkp i h0 hi hp
        rw [swp_length] at hi
        rw [hma, ky_swp key hal h2, ky_swp key hal h2, if_neg (by omega), if_pos rfl, if_neg (by omega), if_neg (by omega)]
        have := h.1 i h0 hi (by omega) (by omega)
        rw [hp] at this
        exact this
theorem heapF_heap : ∀ (k : Nat) (L : List α), HPf key L k → HPf key (heapF key k L) 0
  | 0, L, h => h
  | k + 1, L, h => by
    unfold heapF
    refine heapF_heap k _ (sinkF_heap key _ L k k (Nat.le_refl _) (by omega) ⟨fun i h0 hi hp hpk => h i h0 hi (by omega), fun h0 hp => by omega⟩)
theorem ofF_heap (L : List α) : HPf key (ofF key L) 0 := heapF_heap key _ L (fun i h0 hi hp => by omega)
/-- Amid rising: all stand right but a itself. -/
def Rsn (L : List α) (a : Nat) : Prop :=
  (∀ i, 0 < i → i < L.length → i ≠ a → ky key L ((i - 1) / 2) ≤ ky key L i) ∧
  (0 < a → ∀ i, 0 < i → i < L.length → (i - 1) / 2 = a → ky key L ((a - 1) / 2) ≤ ky key L i)
theorem riseF_heap : ∀ (f : Nat) (L : List α) (a : Nat), a < f → a < L.length → Rsn key L a → HPf key (riseF key f L a) 0
  | 0, L, a, hf, hl, h => by omega
  | f + 1, L, a, hf, hl, h => by
    unfold riseF
    split
    · rename_i ha
      intro i h0 hi hp
      exact h.1 i h0 hi (by omega)
    · rename_i ha
      cases hlt : lt2 key L a ((a - 1) / 2) with
      | false =>
        simp only [Bool.false_eq_true, if_false]
        intro i h0 hi hp
        by_cases hia : i = a
        · subst hia
          exact lt2_false key hlt hi (by omega)
        · exact h.1 i h0 hi hia
      | true =>
        simp only [if_true]
        obtain ⟨_, hpl, hlt2⟩ := lt2_true key hlt
        obtain ⟨p, hp⟩ : ∃ p, p = (a - 1) / 2 := ⟨_, rfl⟩
        rw [← hp] at hpl hlt2 ⊢
        have hpa : p < a := by omega
        refine riseF_heap f (swp L a p) p (by omega) (by rw [swp_length]; exact hpl) ⟨?_, ?_⟩
        · intro i h0 hi hne
          rw [swp_length] at hi
          rw [ky_swp key hl hpl, ky_swp key hl hpl, if_neg hne]
          by_cases hia : i = a
          · have e1 : (i - 1) / 2 = p := by omega
            rw [if_pos hia, if_pos e1]
            omega
          · rw [if_neg hia]
            by_cases hip : (i - 1) / 2 = p
            · rw [if_pos hip]
              have := h.1 i h0 hi hia
              rw [hip] at this
              omega
            · rw [if_neg hip]
              by_cases hipa : (i - 1) / 2 = a
              · rw [if_pos hipa]
                have := h.2 (by omega) i h0 hi hipa
                rw [← hp] at this
                exact this
              · rw [if_neg hipa]
                exact h.1 i h0 hi hia
        · intro hp0 i h0 hi hip
          rw [swp_length] at hi
          have h5 := h.1 p hp0 (by omega) (by omega)
          rw [ky_swp key hl hpl, ky_swp key hl hpl, if_neg (by omega), if_neg (by omega), if_neg (by omega)]
          by_cases hia : i = a
          · rw [if_pos hia]
            exact h5
          · rw [if_neg hia]
            have h6 := h.1 i h0 hi hia
            rw [hip] at h6
            omega
theorem ky_append_left {L : List α} {x : α} {i : Nat} (h : i < L.length) : ky key (L ++ [x]) i = ky key L i := by
  unfold ky
  rw [List.getElem?_append_left h]
theorem pushF_heap {L : List α} (x : α) (h : HPf key L 0) : HPf key (pushF key L x) 0 := by
  unfold pushF
  refine riseF_heap key _ _ _ (by omega) (by simp) ⟨?_, ?_⟩
  · intro i h0 hi hne
    simp at hi
    rw [ky_append_left key (by omega), ky_append_left key (by omega)]
    exact h i h0 (by omega) (by omega)
  · intro h0 i h1 hi hp
    simp at hi
    omega
theorem popF_heap {L : List α} (h : HPf key L 0) : HPf key (popF key L) 0 := by
  unfold popF
  split
  · rename_i z hz
    refine sinkF_heap key _ _ 0 0 (Nat.le_refl _) (by simp) ⟨?_, fun h0 => by omega⟩
    intro i h0 hi hp hp0
    simp at hi
    have hk : ∀ j, 0 < j → j < L.length - 1 → ky key ((L.set 0 z).take (L.length - 1)) j = ky key L j := by
      intro j hj0 hj
      unfold ky
      rw [List.getElem?_take, if_pos hj, List.getElem?_set_ne (by omega)]
    rw [hk i h0 (by omega), hk _ (by omega) (by omega)]
    exact h i h0 (by omega) hp
  · intro i h0 hi
    simp at hi
theorem heap_least {L : List α} (h : HPf key L 0) : ∀ i, i < L.length → ky key L 0 ≤ ky key L i := by
  intro i
  induction i using Nat.strongRecOn with
  | _ i ih =>
    intro hi
    by_cases h0 : i = 0
    · rw [h0]; omega
    · have h1 := h i (by omega) hi (by omega)
      have h2 := ih ((i - 1) / 2) (by omega) (by omega)
      omega
theorem heap_least_mem {L : List α} {x : α} (h : HPf key L 0) (h0 : L[0]? = some x) : ∀ y ∈ L, key x ≤ key y := by
  intro y hy
  obtain ⟨i, hi, rfl⟩ := List.getElem_of_mem hy
  have := heap_least key h i hi
  unfold ky at this
  rw [h0, List.getElem?_eq_getElem hi] at this
  exact this
end
end Go.Proofs.YtjbdhakogbolkaaDoor
end
section
/- heap's asking for the order of two things: its contract. -/
namespace Go.Proofs.YtjbdhakogbolkaaDoor.HQ
open Go.RowKit
set_option linter.unusedVariables false
set_option linter.unusedSimpArgs false
set_option maxRecDepth 100000
/-- A pair: rank, Id, the left one's place (which a text's length bounds), the right one's. -/
structure El where
  k : Int
  i : Int
  p : Int
  q : Int
  hp : 0 ≤ p ∧ p < 2097152
def keyE (x : El) : Int := x.k * 2097152 + x.p
theorem key_lt (x y : El) : keyE x < keyE y ↔ x.k < y.k ∨ (x.k = y.k ∧ x.p < y.p) := by
  have h1 := x.hp
  have h2 := y.hp
  unfold keyE
  omega
/-- A thing as a value. -/
def valE (x : El) : Value := .agg #[.int .i64 x.k, .int .i64 x.i, .int .i64 x.p, .int .i64 x.q]
/-- A thing's cells. -/
def cellsE (x : El) : List Value := [.int .i64 x.k, .int .i64 x.i, .int .i64 x.p, .int .i64 x.q]
def lessV : Value := .func (.func 54) #[] #[]
/-- The heap's own block. -/
def HpAt (w : World) (g : Nat) (sv : Value) : Prop := w.heap[g]? = some (.cells #[lessV, sv] 154 (0, 0))
theorem calls_named {P : Program} {f : FuncId} {args : Array Value} {w : World} {R : Ending → World → Prop} (h : ∀ X, X = w → Calls P f args X R) : Calls P f args w R := h w rfl
theorem cell_alloc_h {w : World} {a : Addr} {v : Value} (h : w.cell? a = some v) (o : Obj) : (w.alloc o).cell? a = some v :=
  (((Below.refl w.heap.size w).alloc (Nat.le_refl _) o).cell (World.block_lt_of_cell? w _ h)).trans h
theorem frozen_alloc_h {w : World} {a : Addr} {v : Value} (h : w.cell? a = some v) {z : Bool} (hf : w.frozen? a = z) (o : Obj) : (w.alloc o).frozen? a = z :=
  (((Below.refl w.heap.size w).alloc (Nat.le_refl _) o).frozen (World.block_lt_of_cell? w _ h)).trans hf
theorem less_any (x y : El) (W : World) :
    Calls Tryd.prog 54 #[valE x, valE y] W fun e w' => e = .returned (.bool (decide (keyE x < keyE y))) ∧ Below W.heap.size W w' := by
  obtain ⟨b, hb⟩ : ∃ b, b = decide (keyE x < keyE y) := ⟨_, rfl⟩
  rw [← hb]
  have hb2 : b = decide (x.k < y.k ∨ (x.k = y.k ∧ x.p < y.p)) := by rw [hb]; congr 1; exact propext (key_lt x y)
  clear hb
  have hb := hb2
  clear hb2
  unfold valE
  by_cases hk : x.k = y.k
  · have d1 : (x.k != y.k) = false := by simp [hk]
    have hb1 : decide (x.p < y.p) = b := by rw [hb]; congr 1; exact propext (by omega)
    clear hb hk
    go_enter Tryd.func54, Tryd.ntmps54
    go_wp2
    go_ret
    refine ⟨by simp [hb1], ?_⟩
    exact ((Below.refl _ _).alloc (Nat.le_refl _) _).alloc (by simp) _
  · have d1 : (x.k != y.k) = true := by simp [hk]
    have hb1 : decide (x.k < y.k) = b := by rw [hb]; congr 1; exact propext (by omega)
    clear hb hk
    go_enter Tryd.func54, Tryd.ntmps54
    go_wp2
    go_ret
    refine ⟨by simp [hb1], ?_⟩
    exact ((Below.refl _ _).alloc (Nat.le_refl _) _).alloc (by simp) _
/-- The deferred closure: the order is laid back, nothing is to recover. -/
theorem after_any (p g q : Nat) (sv : Value) (W : World) (h1 : W.cell? ⟨p, 0, none⟩ = some lessV) (h3 : W.cell? ⟨q, 0, none⟩ = some (.pointer (some ⟨g, 0, none⟩))) {z : Value} (h4 : W.cell? ⟨g, 0, none⟩ = some z) (h5 : W.frozen? ⟨g, 0, none⟩ = false) :
    CallsD Tryd.prog 96 #[.pointer (some ⟨p, 0, none⟩), .pointer (some ⟨q, 0, none⟩)] .returning W fun e u' w' => e = .returned (.tuple #[]) ∧ u' = .returning ∧ w' = W.setCell ⟨g, 0, none⟩ lessV := by
  refine callsD_of_wpS Tryd.func96 rfl fun c₀ cs hu => ?_
  unfold lessV at h1 ⊢
  apply wpS_seq
  refine wpS_of_wp ?_
  simp only [Tryd.ntmps96]
  go_wp2
  simp only [Exit.thenS]
  apply wpS_region
  cases c₀
  simp_all [wpOpsS, go_sem, recoverD, bodyPostS, results, Tryd.results96]
set_option maxHeartbeats 1000000 in
theorem before_any (g : Nat) (sv : Value) (x y : El) (W : World) (hg : HpAt W g sv) :
    Calls Tryd.prog 91 #[.pointer (some ⟨g, 0, none⟩), valE x, valE y] W fun e w' => e = .returned (.bool (decide (keyE x < keyE y))) ∧ Below W.heap.size W w' := by
  have c0 : W.cell? ⟨g, 0, none⟩ = some lessV := by rw [cell_of_row W g 0 _ _ _ hg]; rfl
  have f0 : W.frozen? ⟨g, 0, none⟩ = false := frozen_of_row W g 0 _ _ hg
  have hmf : ∀ (fn : Fn) (first cap : Array Value) (w : World), (Instr.makeFunc fn first cap).run Tryd.prog w = .ok (.func fn first cap) w := fun _ _ _ _ => rfl
  unfold lessV at c0
  have hq : ∀ w : World, (binOp BinOp.eql 121 (.func (.func 54) #[] #[]) .nilFunc).run Tryd.prog w = .ok (.bool false) w := fun _ => by kernel_rfl
  have ca1 : ∀ o1, (W.alloc o1).cell? ⟨g, 0, none⟩ = some (.func (.func 54) #[] #[]) := fun o1 => cell_alloc_h c0 o1
  have fa1 : ∀ o1, (W.alloc o1).frozen? ⟨g, 0, none⟩ = false := fun o1 => frozen_alloc_h c0 f0 o1
  have ca2 : ∀ o1 o2, ((W.alloc o1).alloc o2).cell? ⟨g, 0, none⟩ = some (.func (.func 54) #[] #[]) := fun o1 o2 => cell_alloc_h (ca1 o1) o2
  have fa2 : ∀ o1 o2, ((W.alloc o1).alloc o2).frozen? ⟨g, 0, none⟩ = false := fun o1 o2 => frozen_alloc_h (ca1 o1) (fa1 o1) o2
  have ca3 : ∀ o1 o2 o3, (((W.alloc o1).alloc o2).alloc o3).cell? ⟨g, 0, none⟩ = some (.func (.func 54) #[] #[]) := fun o1 o2 o3 => cell_alloc_h (ca2 o1 o2) o3
  have fa3 : ∀ o1 o2 o3, (((W.alloc o1).alloc o2).alloc o3).frozen? ⟨g, 0, none⟩ = false := fun o1 o2 o3 => frozen_alloc_h (ca2 o1 o2) (fa2 o1 o2) o3
  have ca4 : ∀ o1 o2 o3 o4, ((((W.alloc o1).alloc o2).alloc o3).alloc o4).cell? ⟨g, 0, none⟩ = some (.func (.func 54) #[] #[]) := fun o1 o2 o3 o4 => cell_alloc_h (ca3 o1 o2 o3) o4
  have fa4 : ∀ o1 o2 o3 o4, ((((W.alloc o1).alloc o2).alloc o3).alloc o4).frozen? ⟨g, 0, none⟩ = false := fun o1 o2 o3 o4 => frozen_alloc_h (ca3 o1 o2 o3) (fa3 o1 o2 o3) o4
  have hlt : g < W.heap.size := World.block_lt_of_cell? W _ c0
  have n0 : ¬ g = W.heap.size := by omega
  have n1 : ¬ g = W.heap.size + 1 := by omega
  have n2 : ¬ g = W.heap.size + 2 := by omega
  have n3 : ¬ g = W.heap.size + 3 := by omega
  have m0 : ¬ W.heap.size = g := by omega
  have m1 : ¬ W.heap.size + 1 = g := by omega
  have m2 : ¬ W.heap.size + 2 = g := by omega
  have m3 : ¬ W.heap.size + 3 = g := by omega
  unfold valE
  go_enter_defers Tryd.func91, Tryd.ntmps91
  go_wp2_with fail
  refine calls_named fun X hX => ?_
  refine (less_any x y _).mono ?_
  rintro e w1 ⟨rfl, hb1⟩
  go_wp2
  have hs : X.heap.size = W.heap.size + 4 := by rw [hX]; simp
  have hXh : X.cell? ⟨W.heap.size, 0, none⟩ = some (.pointer (some ⟨g, 0, none⟩)) := by rw [hX]; simp [go_sem, m0]
  have hXl : X.cell? ⟨W.heap.size + 1 + 1 + 1, 0, none⟩ = some lessV := by rw [hX]; simp [go_sem, lessV, m0, m1, m2, m3]
  have hXg : X.heap[g]? = some (.cells #[.nilFunc, sv] 154 (0, 0)) := by
    rw [hX]
    rw [heap_setCell_same _ g 0 _ _ _ (by rw [Below.heap_alloc _ _ _ (by simp; omega), Below.heap_alloc _ _ _ (by simp; omega), Below.heap_alloc _ _ _ (by simp; omega), Below.heap_alloc _ _ _ hlt]; exact hg)]
    rfl
  have hXo : ∀ k, k < W.heap.size → k ≠ g → X.heap[k]? = W.heap[k]? := by
    intro k hk hkg
    rw [hX, heap_setCell_other _ ⟨g, 0, none⟩ k _ hkg, Below.heap_alloc _ _ _ (by simp; omega), Below.heap_alloc _ _ _ (by simp; omega), Below.heap_alloc _ _ _ (by simp; omega), Below.heap_alloc _ _ _ hk]
  have hXs : X.os = W.os ∧ X.tape = W.tape ∧ X.output = W.output := by rw [hX]; exact ⟨rfl, rfl, rfl⟩
  clear hX
  have h1g : w1.heap[g]? = some (.cells #[.nilFunc, sv] 154 (0, 0)) := by rw [hb1.block g (by omega)]; exact hXg
  refine leaves_cons (f := 96) (args := #[.pointer (some ⟨W.heap.size + 1 + 1 + 1, 0, none⟩), .pointer (some ⟨W.heap.size, 0, none⟩)]) (by simp) (by simp [go_sem]) ?_
  refine (after_any _ g _ sv w1 (z := .nilFunc) ?_ ?_ ?_ ?_).mono ?_
  · rw [hb1.cell (by show W.heap.size + 1 + 1 + 1 < X.heap.size; omega)]; exact hXl
  · rw [hb1.cell (by show W.heap.size < X.heap.size; omega)]; exact hXh
  · rw [cell_of_row w1 g 0 _ _ _ h1g]; rfl
  · exact frozen_of_row w1 g 0 _ _ h1g
  rintro e u' w2 ⟨rfl, rfl, rfl⟩
  refine ⟨_, results_tmp rfl _ _ _, rfl, ?_⟩
  refine ⟨hb1.os.trans hXs.1, hb1.tape.trans hXs.2.1, hb1.output.trans hXs.2.2, ?_, ?_⟩
  · have := hb1.size
    rw [show (w1.setCell ⟨g, 0, none⟩ lessV).heap.size = w1.heap.size by simp]
    omega
  · intro k hk
    by_cases hkg : k = g
    · subst hkg
      rw [heap_setCell_same w1 k 0 _ _ _ h1g, hg]
      rfl
    · rw [heap_setCell_other w1 ⟨g, 0, none⟩ k _ hkg, hb1.block k (by omega)]
      exact hXo k hk hkg
end Go.Proofs.YtjbdhakogbolkaaDoor.HQ
end
section
/- A list of things in memory of one's own: read, written, kept. -/
namespace Go.Proofs.YtjbdhakogbolkaaDoor.HQ
open Go.RowKit Go.Joins
set_option linter.unusedVariables false
set_option linter.unusedSimpArgs false
/-- The value v owns the things L. -/
def RowE (w : World) (base : Nat) (v : Value) (L : List El) : Prop := w.ownsRow base 86 4 v L.length (L.flatMap cellsE)
/-- A thing stands at a place. -/
def ElAt (w : World) (b o : Nat) (x : El) : Prop := w.cell? ⟨b, o, none⟩ = some (.int .i64 x.k) ∧ w.cell? ⟨b, o + 1, none⟩ = some (.int .i64 x.i) ∧ w.cell? ⟨b, o + 2, none⟩ = some (.int .i64 x.p) ∧ w.cell? ⟨b, o + 3, none⟩ = some (.int .i64 x.q)
/-- A thing is laid at a place. -/
def putE (w : World) (b o : Nat) (x : El) : World := (((w.setCell ⟨b, o, none⟩ (.int .i64 x.k)).setCell ⟨b, o + 1, none⟩ (.int .i64 x.i)).setCell ⟨b, o + 2, none⟩ (.int .i64 x.p)).setCell ⟨b, o + 3, none⟩ (.int .i64 x.q)
theorem cellsE_length (x : El) : (cellsE x).length = 4 := rfl
theorem flatE_length (L : List El) : (L.flatMap cellsE).length = L.length * 4 := by
  induction L with
  | nil => rfl
  | cons x L ih => rw [List.flatMap_cons, List.length_append, ih, cellsE_length, List.length_cons]; omega
theorem flatE_get : ∀ (L : List El) (i : Nat) (x : El), L[i]? = some x → ∀ j, j < 4 → (L.flatMap cellsE)[i * 4 + j]? = (cellsE x)[j]?
  | [], i, x, h, _, _ => by simp at h
  | y :: L, 0, x, h, j, hj => by
    simp at h
    subst h
    rw [List.flatMap_cons, List.getElem?_append_left (by rw [cellsE_length]; omega)]
    simp
  | y :: L, i + 1, x, h, j, hj => by
    rw [List.flatMap_cons, List.getElem?_append_right (by rw [cellsE_length]; omega), cellsE_length, show (i + 1) * 4 + j - 4 = i * 4 + j by omega]
    exact flatE_get L i x (by simpa using h) j hj
theorem flatE_set : ∀ (L : List El) (i : Nat) (x : El), i < L.length → (L.set i x).flatMap cellsE = ((((L.flatMap cellsE).set (i * 4) (.int .i64 x.k)).set (i * 4 + 1) (.int .i64 x.i)).set (i * 4 + 2) (.int .i64 x.p)).set (i * 4 + 3) (.int .i64 x.q)
  | [], i, x, h => by simp at h
  | y :: L, 0, x, h => by
    simp [cellsE]
  | y :: L, i + 1, x, h => by
    have ih := flatE_set L i x (by simpa using h)
    rw [List.set_cons_succ, List.flatMap_cons, ih, List.flatMap_cons]
    rw [List.set_append_right _ _ (by rw [cellsE_length]; omega), List.set_append_right _ _ (by rw [cellsE_length]; omega), List.set_append_right _ _ (by rw [cellsE_length]; omega), List.set_append_right _ _ (by rw [cellsE_length]; omega)]
    simp only [cellsE_length]
    rw [show (i + 1) * 4 - 4 = i * 4 by omega, show (i + 1) * 4 + 1 - 4 = i * 4 + 1 by omega, show (i + 1) * 4 + 2 - 4 = i * 4 + 2 by omega, show (i + 1) * 4 + 3 - 4 = i * 4 + 3 by omega]
theorem RowE.at' {w : World} {base b n cap : Nat} {L : List El} (h : RowE w base (.slice (some ⟨b, 0, none⟩) n cap) L) {i : Nat} {x : El} (hx : L[i]? = some x) : ElAt w b (i * 4) x := by
  have hi := (List.getElem?_eq_some_iff.1 hx).1
  have hc := World.ownsRow.cells h (g := b) rfl
  have hg : ∀ j, j < 4 → w.cell? ⟨b, i * 4 + j, none⟩ = (cellsE x)[j]? := by
    intro j hj
    have hj' : (cellsE x)[j]? = some (cellsE x)[j] := List.getElem?_eq_getElem (by rw [cellsE_length]; exact hj)
    have := hc (i * 4 + j) _ ((flatE_get L i x hx j hj).trans hj')
    have hadd : (⟨b, 0, none⟩ : Addr).add (i * 4 + j) = ⟨b, i * 4 + j, none⟩ := by unfold Addr.add; split <;> simp_all
    rw [hj', ← this, hadd]
  exact ⟨hg 0 (by omega), hg 1 (by omega), hg 2 (by omega), hg 3 (by omega)⟩
theorem RowE.len {w : World} {base n cap : Nat} {a : Option Addr} {L : List El} (h : RowE w base (.slice a n cap) L) : n = L.length := by
  rcases h.2 with ⟨h1, h2⟩ | ⟨g, c, cur, h1, _⟩
  · cases h1; exact h2.symm
  · cases h1; rfl
theorem RowE.put {w : World} {base b n cap : Nat} {L : List El} (h : RowE w base (.slice (some ⟨b, 0, none⟩) n cap) L) {i : Nat} (hi : i < L.length) (x : El) : RowE (putE w b (i * 4) x) base (.slice (some ⟨b, 0, none⟩) n cap) (L.set i x) ∧ w.grownBy (putE w b (i * 4) x) (some b) := by
  obtain rfl := h.len
  have h1 := World.ownsRow.stored h (i * 4) (.int .i64 x.k)
  have h2 := World.ownsRow.stored h1.1 (i * 4 + 1) (.int .i64 x.i)
  have h3 := World.ownsRow.stored h2.1 (i * 4 + 2) (.int .i64 x.p)
  have h4 := World.ownsRow.stored h3.1 (i * 4 + 3) (.int .i64 x.q)
  refine ⟨?_, ⟨rfl, rfl, rfl, by simp [putE], fun k hk hne => ?_⟩⟩
  · unfold RowE putE
    rw [flatE_set L i x hi, List.length_set]
    exact h4.1
  · exact (h4.2.block k (by simpa using hk) hne).trans ((h3.2.block k (by simpa using hk) hne).trans ((h2.2.block k (by simpa using hk) hne).trans (h1.2.block k hk hne)))
theorem RowE.below {w w' : World} {base : Nat} {v : Value} {L : List El} (h : RowE w base v L) (hb : Below w.heap.size w w') : RowE w' base v L :=
  World.ownsRow.kept h ⟨hb.os, hb.tape, hb.output, hb.size, fun k hk _ => hb.block k hk⟩ (row := none) (by cases v.ownBlock <;> simp)
theorem RowE.grown {w w' : World} {base : Nat} {v : Value} {L : List El} {row : Option Nat} (h : RowE w base v L) (hb : w.grownBy w' row) (hne : v.ownBlock = none ∨ v.ownBlock ≠ row) : RowE w' base v L := World.ownsRow.kept h hb hne
theorem RowE.free {w : World} {base b n cap : Nat} {L : List El} (h : RowE w base (.slice (some ⟨b, 0, none⟩) n cap) L) (j : Nat) : w.frozen? ⟨b, j, none⟩ = false := by
  obtain rfl := h.len
  exact World.ownsRow.frozenAt h j
theorem ElAt.below {w w' : World} {b o : Nat} {x : El} (h : ElAt w b o x) (hb : Below w.heap.size w w') : ElAt w' b o x :=
  ⟨(hb.cell (World.block_lt_of_cell? w _ h.1)).trans h.1, (hb.cell (World.block_lt_of_cell? w _ h.2.1)).trans h.2.1, (hb.cell (World.block_lt_of_cell? w _ h.2.2.1)).trans h.2.2.1, (hb.cell (World.block_lt_of_cell? w _ h.2.2.2)).trans h.2.2.2⟩
theorem HpAt.below {w w' : World} {g : Nat} {sv : Value} (h : HpAt w g sv) (hb : Below w.heap.size w w') : HpAt w' g sv :=
  (hb.block g (Array.getElem?_eq_some_iff.1 h).1).trans h
theorem HpAt.grown {w w' : World} {g b : Nat} {sv : Value} (h : HpAt w g sv) (hb : w.grownBy w' (some b)) (hne : g ≠ b) : HpAt w' g sv :=
  (hb.block g (Array.getElem?_eq_some_iff.1 h).1 (by simpa using hne)).trans h
/-- The last one is cut off. -/
theorem RowE.pop {w : World} {base b m cap : Nat} {L : List El} (h : RowE w base (.slice (some ⟨b, 0, none⟩) (m + 1) cap) L) : RowE w base (.slice (some ⟨b, 0, none⟩) m cap) (L.take m) := by
  have hl := h.len
  obtain ⟨x, hx⟩ : ∃ x, L[m]? = some x := ⟨_, List.getElem?_eq_getElem (by omega)⟩
  have hL : L = L.take m ++ [x] := by
    apply List.ext_getElem?
    intro i
    by_cases hi : i < m
    · rw [List.getElem?_append_left (by simp; omega), List.getElem?_take, if_pos hi]
    · by_cases hi2 : i = m
      · subst hi2
        rw [List.getElem?_append_right (by simp; omega), hx]
        simp
        rw [show i - min i L.length = 0 by omega]
        rfl
      · rw [List.getElem?_eq_none (by omega), List.getElem?_eq_none (by simp; omega)]
  have h1 : w.ownsRow base 86 4 (.slice (some ⟨b, 0, none⟩) (m + 1) cap) (m + 1) ((L.take m).flatMap cellsE ++ [x].flatMap cellsE) := by
    rw [← List.flatMap_append, ← hL]
    have := h
    unfold RowE at this
    rw [← hl] at this
    exact this
  have h2 := ownsRow_pop (by rw [flatE_length]; simp; omega) h1
  unfold RowE
  rw [show (L.take m).length = m by simp; omega]
  exact h2
theorem HpAt.turn {w : World} {g : Nat} {sv : Value} (h : HpAt w g sv) (u : Value) : HpAt (w.setCell ⟨g, 1, none⟩ u) g u := by
  unfold HpAt
  rw [heap_setCell_same w g 1 _ _ _ h]
  rfl
theorem grownBy_refl (w : World) (row : Option Nat) : w.grownBy w row := ⟨rfl, rfl, rfl, Nat.le_refl _, fun _ _ _ => rfl⟩
theorem grownBy_trans {a b c : World} {row : Option Nat} (h : a.grownBy b row) (k : b.grownBy c row) : a.grownBy c row :=
  ⟨k.os.trans h.os, k.tape.trans h.tape, k.output.trans h.output, Nat.le_trans h.size k.size, fun i hi hne => (k.block i (Nat.lt_of_lt_of_le hi h.size) hne).trans (h.block i hi hne)⟩
theorem grownBy_below {a b c : World} {row : Option Nat} (h : a.grownBy b row) (k : Below b.heap.size b c) : a.grownBy c row :=
  grownBy_trans h ⟨k.os, k.tape, k.output, k.size, fun i hi _ => k.block i hi⟩
end Go.Proofs.YtjbdhakogbolkaaDoor.HQ
end
section
/- A region that draws its order: moves may be taken first; so may a load that yields the same on either side of a call. -/
namespace Go.Proofs.YtjbdhakogbolkaaDoor
open Go.RowKit
section
variable {P : Program} {ops : Array Oper} {md : Region.Mode} {Q : Exit → Act → World → Prop} {S : World → Prop}
/-- From here on just one operation may come up at a time: those numbered is. -/
def oneB (md : Region.Mode) (ops : Array Oper) : List Nat → Array Bool → Bool
  | [], listed => decide (Region.ready md ops listed = [])
  | i :: is, listed => decide (Region.ready md ops listed = [i]) && oneB md ops is (listed.setIfInBounds i true)
def pick (l : List Oper) : List Nat → List Oper
  | [] => []
  | i :: is => (l.drop i).take 1 ++ pick l is
theorem wpAny_one (l : List Oper) : ∀ (is : List Nat) (listed : Array Bool) (a : Act) (w : World), (∀ i ∈ is, i < l.length) → oneB md l.toArray is listed = true →
    wpList P l.toArray Q (pick l is) a w → wpAny P md l.toArray Q is.length listed a w
  | [], _, _, _, _, hB, h => ⟨of_decide_eq_true hB, h⟩
  | i :: is, listed, a, w, hl, hB, h => by
    simp only [oneB, Bool.and_eq_true, decide_eq_true_eq] at hB
    have hi := hl i (List.mem_cons_self ..)
    have h0 : l.toArray[i]? = some l[i] := by simp [hi]
    have h1 : pick l (i :: is) = l[i] :: pick l is := by
      show (l.drop i).take 1 ++ pick l is = _
      rw [List.drop_eq_getElem_cons hi]
      rfl
    rw [h1] at h
    refine ⟨fun e => (by rw [hB.1] at e; cases e), fun k hk => ?_⟩
    rw [hB.1] at hk
    obtain rfl : k = i := by simpa using hk
    have hw : wpOp P l.toArray Q k (wpList P l.toArray Q (pick l is)) a w := by unfold wpOp; simp only [h0]; exact h
    exact wpOp_mono (fun a' w' h' => wpAny_one l is _ a' w' (fun j hj => hl j (List.mem_cons_of_mem _ hj)) hB.2 h') hw
/-- A move may be taken first. -/
theorem wpAny_move {i fuel : Nat} {oi : Oper} (x : Operand) {listed : Array Bool} {a : Act} {w : World} (hi : ops[i]? = some oi) (ho : oi.op = .move x) (hg : oi.guard = none)
    (hs : Region.noSelect ops = true) (hf : Region.free md ops listed i = true) (hr : (Region.ready md ops listed).contains i = true)
    (hQ : ∀ c (a' : Act) w v, Q (.panic c) (a'.put oi.dst v) w → Q (.panic c) a' w)
    (h : wpAny P md ops Q fuel (listed.setIfInBounds i true) (a.put oi.dst (a.eval x)) w) : wpAny P md ops Q (fuel + 1) listed a w :=
  wpAny_take hi hs hf hr (fun c a' w' h => hQ c a' w' _ h) (.inl ⟨by simp [Region.wanted, hg], fun w' => by simp [execOp, ho, Sem.run_pure]⟩) h
/-- Two may come up: a load, which yields the same on either side of the other. It is taken first; behind the two one at a time. -/
theorem wpAny_load {i j : Nat} {oi oj : Oper} {u : Value} {listed : Array Bool} {a : Act} {w : World} (l : List Oper) (is : List Nat) (hi : l.toArray[i]? = some oi) (hj : l.toArray[j]? = some oj)
    (hs : Region.noSelect l.toArray = true) (hap : oj.apart l.toArray oi = true) (hij : i ≠ j)
    (hr : Region.ready md l.toArray listed = [i, j]) (hri : Region.ready md l.toArray (listed.setIfInBounds i true) = [j]) (hrj : Region.ready md l.toArray (listed.setIfInBounds j true) = [i])
    (hB : oneB md l.toArray is ((listed.setIfInBounds j true).setIfInBounds i true) = true) (hl : ∀ i ∈ is, i < l.length)
    (hQ : ∀ c (a' : Act) w v, Q (.panic c) (a'.put oj.dst v) w → Q (.panic c) a' w)
    (hy : YieldsIf P l.toArray S oj u a) (hS : S w) (hg : oi.guard = none)
    (h : ∀ K : Act → World → Prop, (∀ a' w', S w' → wpList P l.toArray Q (pick l is) a' w' → K a' w') → oi.wp P (a.put oj.dst u) w K Q) :
    wpAny P md l.toArray Q (is.length + 2) listed a w := by
  have hsel := Region.noSelect_spec hs
  have h1 : wpOp P l.toArray Q i (fun a' w' => S w' ∧ wpAny P md l.toArray Q is.length ((listed.setIfInBounds j true).setIfInBounds i true) a' w') (a.put oj.dst u) w := by
    unfold wpOp
    simp only [hi, Region.wanted, hg, if_true]
    exact .inl (h _ fun a' w' hs' hw' => ⟨hs', wpAny_one l is _ a' w' hl hB hw'⟩)
  refine ⟨fun e => (by rw [hr] at e; cases e), fun k hk => ?_⟩
  rw [hr] at hk
  have hk' : k = i ∨ k = j := by simpa using hk
  rcases hk' with rfl | rfl
  · have h2 := wpOp_putIf hi hap (fun cs b => hsel j oj cs b hj) (fun cs b => hsel k oi cs b hi) (fun c a' w' h => hQ c a' w' _ h) hy h1
    refine wpOp_mono (fun a' w' h3 => ?_) h2
    refine ⟨fun e => (by rw [hri] at e; cases e), fun m hm => ?_⟩
    rw [hri] at hm
    obtain rfl : m = j := by simpa using hm
    refine h3.1.wpOp hj h3.2.1 ?_
    rw [Array.setIfInBounds_comm _ _ hij]
    exact h3.2.2
  · refine hy.wpOp hj hS ?_
    refine ⟨fun e => (by rw [hrj] at e; cases e), fun m hm => ?_⟩
    rw [hrj] at hm
    obtain rfl : m = i := by simpa using hm
    exact wpOp_mono (fun a' w' h3 => h3.2) h1
end
end Go.Proofs.YtjbdhakogbolkaaDoor
end
