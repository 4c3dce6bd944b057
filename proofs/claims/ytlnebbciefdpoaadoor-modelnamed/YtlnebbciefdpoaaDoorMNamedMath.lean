/- Words that are moved and ids that are renamed: the mathematics. -/
import Derived.Test.YtlnebbciefdpoaaDoorMAllLaw
namespace Go.Proofs.YtlnebbciefdpoaaDoor
set_option linter.unusedVariables false
/-- A renaming of 256 + n ids: bytes keep their names. -/
structure Ren (T : List Int) (n : Nat) : Prop where
  len : T.length = 256 + n
  low : ∀ (i : Nat), i < 256 → T[i]? = some (i : Int)
  high : ∀ (i : Nat) (v : Int), 256 ≤ i → T[i]? = some v → 256 ≤ v ∧ v < 256 + n
  inj : ∀ (i j : Nat) (v : Int), T[i]? = some v → T[j]? = some v → i = j
  onto : ∀ (v : Nat), 256 ≤ v → v < 256 + n → ∃ i : Nat, 256 ≤ i ∧ T[i]? = some (v : Int)
theorem Ren.start (n : Nat) : Ren ((List.range (256 + n)).map fun i : Nat => (i : Int)) n := by
  have hg : ∀ (i : Nat) (v : Int), ((List.range (256 + n)).map fun i : Nat => (i : Int))[i]? = some v → v = i ∧ i < 256 + n := fun i v h => by
    have hi : i < 256 + n := by
      have := (List.getElem?_eq_some_iff.1 h).1
      simpa using this
    rw [List.getElem?_map, List.getElem?_range hi] at h
    exact ⟨by simpa using h.symm, hi⟩
  refine ⟨by simp, fun i hi => ?_, fun i v hi h => ?_, fun i j v h1 h2 => ?_, fun v h1 h2 => ⟨v, h1, ?_⟩⟩
  · rw [List.getElem?_map, List.getElem?_range (by omega)]; rfl
  · obtain ⟨rfl, h2⟩ := hg i v h; omega
  · have := (hg i v h1).1; have := (hg j v h2).1; omega
  · rw [List.getElem?_map, List.getElem?_range h2]; rfl
/-- Two ids exchange their names. -/
theorem Ren.swap {T : List Int} {n : Nat} (h : Ren T n) {a b : Nat} {x y : Int} (ha : 256 ≤ a) (hb : 256 ≤ b) (hx : T[a]? = some x) (hy : T[b]? = some y) : Ren ((T.set a y).set b x) n := by
  have hal := (List.getElem?_eq_some_iff.1 hx).1
  have hbl := (List.getElem?_eq_some_iff.1 hy).1
  have hg : ∀ i : Nat, ((T.set a y).set b x)[i]? = if i = b then some x else if i = a then some y else T[i]? := fun i => by
    rw [List.getElem?_set]
    by_cases h1 : b = i
    · subst h1; simp [hbl]
    · rw [if_neg h1, if_neg (fun e => h1 e.symm), List.getElem?_set]
      by_cases h2 : a = i
      · subst h2; simp [hal]
      · rw [if_neg h2, if_neg (fun e => h2 e.symm)]
  refine ⟨by simpa using h.len, fun i hi => ?_, fun i v hi hv => ?_, fun i j v h1 h2 => ?_, fun v h1 h2 => ?_⟩
  · rw [hg, if_neg (by omega), if_neg (by omega)]; exact h.low i hi
  · rw [hg] at hv
    split at hv
    · rw [← Option.some.inj hv]; exact h.high a x ha hx
    · split at hv
      · rw [← Option.some.inj hv]; exact h.high b y hb hy
      · exact h.high i v hi hv
  · rw [hg] at h1 h2
    split at h1 <;> split at h2
    · omega
    · obtain rfl := Option.some.inj h1
      split at h2
      · obtain rfl := Option.some.inj h2
        have := h.inj a b _ hx hy
        omega
      · have := h.inj a j _ hx h2
        omega
    · obtain rfl := Option.some.inj h2
      split at h1
      · obtain rfl := Option.some.inj h1
        have := h.inj a b _ hx hy
        omega
      · have := h.inj a i _ hx h1
        omega
    · split at h1 <;> split at h2
      · omega
      · obtain rfl := Option.some.inj h1
        have := h.inj b j _ hy h2
        omega
      · obtain rfl := Option.some.inj h2
        have := h.inj b i _ hy h1
        omega
      · exact h.inj i j v h1 h2
  · obtain ⟨i, hi, hv⟩ := h.onto v h1 h2
    by_cases hia : i = a
    · subst hia
      obtain rfl := Option.some.inj (hx.symm.trans hv)
      exact ⟨b, hb, by rw [hg, if_pos rfl]⟩
    · by_cases hib : i = b
      · subst hib
        obtain rfl := Option.some.inj (hy.symm.trans hv)
        by_cases hab : a = i
        · exact absurd hab.symm hia
        · exact ⟨a, ha, by rw [hg, if_neg hab, if_pos rfl]⟩
      · exact ⟨i, hi, by rw [hg, if_neg hib, if_neg hia]; exact hv⟩
/-- An id's new name. -/
def ren (T : List Int) (id : Int) : Int := T.getD id.toNat 0
theorem Ren.get {T : List Int} {n : Nat} (h : Ren T n) {id : Int} (h0 : 0 ≤ id) (h1 : id < 256 + n) : T[id.toNat]? = some (ren T id) := by
  have := h.len
  unfold ren
  rw [List.getD_eq_getElem?_getD, List.getElem?_eq_getElem (by omega)]
  rfl
theorem Ren.byte {T : List Int} {n : Nat} (h : Ren T n) {id : Int} (h0 : 0 ≤ id) (h1 : id < 256) : ren T id = id := by
  have h2 := h.get h0 (by omega)
  rw [h.low id.toNat (by omega)] at h2
  have := Option.some.inj h2
  omega
theorem Ren.word {T : List Int} {n : Nat} (h : Ren T n) {id : Int} (h0 : 256 ≤ id) (h1 : id < 256 + n) : 256 ≤ ren T id ∧ ren T id < 256 + n :=
  h.high id.toNat _ (by omega) (h.get (by omega) h1)
theorem Ren.bound {T : List Int} {n : Nat} (h : Ren T n) {id : Int} (h0 : 0 ≤ id) (h1 : id < 256 + n) : 0 ≤ ren T id ∧ ren T id < 256 + n := by
  by_cases h2 : id < 256
  · rw [h.byte h0 h2]; omega
  · have := h.word (id := id) (by omega) h1; omega
theorem Ren.eq {T : List Int} {n : Nat} (h : Ren T n) {a b : Int} (a0 : 0 ≤ a) (a1 : a < 256 + n) (b0 : 0 ≤ b) (b1 : b < 256 + n) : ren T a = ren T b ↔ a = b := by
  constructor
  · intro e
    have h1 := h.get a0 a1
    have h2 := h.get b0 b1
    rw [← e] at h2
    have := h.inj _ _ _ h1 h2
    omega
  · rintro rfl; rfl
/-- The words moved. -/
def Moved (T : List Int) (ws es : List ByteArray) (k : Nat) : Prop := es.length = ws.length ∧ ∀ (i : Nat) (x : ByteArray), i < k → ws[i]? = some x → es[(ren T (256 + i) - 256).toNat]? = some x
theorem Moved.step {T : List Int} {ws es : List ByteArray} {k : Nat} {x : ByteArray} (h : Moved T ws es k) (hr : Ren T ws.length) (hx : ws[k]? = some x) : Moved T ws (es.set (ren T (256 + k) - 256).toNat x) (k + 1) := by
  have hk := (List.getElem?_eq_some_iff.1 hx).1
  have hw := hr.word (id := 256 + k) (by omega) (by omega)
  refine ⟨by simpa using h.1, fun i y hi hy => ?_⟩
  by_cases e : i = k
  · subst e
    obtain rfl : y = x := Option.some.inj (hy.symm.trans hx)
    rw [List.getElem?_set, if_pos rfl, if_pos (by rw [h.1]; omega)]
  · have hil := (List.getElem?_eq_some_iff.1 hy).1
    have hw2 := hr.word (id := 256 + i) (by omega) (by omega)
    rw [List.getElem?_set, if_neg]
    · exact h.2 i y (by omega) hy
    · intro h3
      have : ren T (256 + k) = ren T (256 + i) := by omega
      rw [hr.eq (by omega) (by omega) (by omega) (by omega)] at this
      omega
def renM (T : List Int) (x : Mg) : Mg := ⟨ren T x.l, ren T x.r, ren T x.i⟩
section
variable {T : List Int} {ws es : List ByteArray} {ms : List Mg} {A B C : List Sp}
theorem Moved.wordM (hr : Ren T ws.length) (h : Moved T ws es ws.length) {id : Int} (h0 : 0 ≤ id) (h1 : id < 256 + ws.length) : wordM es (ren T id) = wordM ws id := by
  by_cases h2 : id < 256
  · rw [hr.byte h0 h2]
    unfold Go.Proofs.YtlnebbciefdpoaaDoor.wordM
    rw [if_pos ⟨h0, h2⟩, if_pos ⟨h0, h2⟩]
  · have hw := hr.word (id := id) (by omega) h1
    rw [wordM_in (ws := es) hw.1, wordM_in (ws := ws) (show 256 ≤ id by omega)]
    obtain ⟨x, hx⟩ : ∃ x, ws[(id - 256).toNat]? = some x := ⟨_, List.getElem?_eq_getElem (by omega)⟩
    have := h.2 (id - 256).toNat x (by omega) hx
    rw [show (256 : Int) + ((id - 256).toNat : Nat) = id by omega] at this
    rw [this, hx]
/-- The ids of right merges are ids. -/
theorem MOk.ids (hk : MOk ws ms A B C) {i : Nat} {x : Mg} (hx : ms[i]? = some x) : (0 ≤ x.l ∧ x.l < 256 + ws.length) ∧ (0 ≤ x.r ∧ x.r < 256 + ws.length) ∧ 256 ≤ x.i ∧ x.i < 256 + ws.length := by
  obtain ⟨q1, q2, q3, q4, q5, q6⟩ := hk.cut hx
  have hm : ∀ id, madeM ms i id = true → 0 ≤ id ∧ id < 256 + (ws.length : Int) := fun id hm => by
    unfold madeM at hm
    simp only [Bool.or_eq_true, Bool.and_eq_true, decide_eq_true_eq] at hm
    rcases hm with ⟨h1, h2⟩ | ⟨h1, h2⟩
    · omega
    · obtain ⟨y, hy, hyi⟩ := List.any_eq_true.1 h2
      obtain ⟨j, hj⟩ := List.mem_iff_getElem?.1 hy
      have hji : j < i := by
        have := (List.getElem?_eq_some_iff.1 hj).1
        simp at this; omega
      rw [List.getElem?_take_of_lt hji] at hj
      have := hk.cut hj
      have hid : y.i = id := by simpa using hyi
      omega
  exact ⟨hm _ q4, hm _ q5, q1, by omega⟩
theorem any_renM (hr : Ren T ws.length) (hk : MOk ws ms A B C) (i : Nat) {id : Int} (h0 : 0 ≤ id) (h1 : id < 256 + ws.length) : ((ms.map (renM T)).take i).any (fun y => y.i == ren T id) = (ms.take i).any (fun y => y.i == id) := by
  rw [← List.map_take, List.any_map]
  have : ∀ l : List Mg, (∀ y ∈ l, y ∈ ms) → l.any ((fun y => y.i == ren T id) ∘ renM T) = l.any (fun y => y.i == id) := fun l => by
    induction l with
    | nil => intro _; rfl
    | cons y l ih =>
      intro hl
      obtain ⟨j, hj⟩ := List.mem_iff_getElem?.1 (hl y (by simp))
      obtain ⟨-, -, hy0, hy1⟩ := hk.ids hj
      rw [List.any_cons, List.any_cons, ih fun z hz => hl z (by simp [hz])]
      congr 1
      rw [Bool.eq_iff_iff]
      simp only [Function.comp, renM, beq_iff_eq]
      exact hr.eq (by omega) hy1 h0 h1
  exact this _ fun y hy => List.mem_of_mem_take hy
theorem made_renM (hr : Ren T ws.length) (hk : MOk ws ms A B C) (i : Nat) {id : Int} (h0 : 0 ≤ id) (h1 : id < 256 + ws.length) : madeM (ms.map (renM T)) i (ren T id) = madeM ms i id := by
  unfold madeM
  rw [any_renM hr hk i h0 h1]
  by_cases h2 : id < 256
  · rw [hr.byte h0 h2]
  · have hw := hr.word (id := id) (by omega) h1
    rw [decide_eq_false (show ¬ ren T id < 256 by omega), decide_eq_false h2, decide_eq_true (show 256 ≤ ren T id by omega), decide_eq_true (show 256 ≤ id by omega)]
    simp
theorem pair_renM (hr : Ren T ws.length) {y : Mg} {l r : Int} (hy : (0 ≤ y.l ∧ y.l < 256 + ws.length) ∧ (0 ≤ y.r ∧ y.r < 256 + ws.length)) (l0 : 0 ≤ l) (l1 : l < 256 + ws.length) (r0 : 0 ≤ r) (r1 : r < 256 + ws.length) : pairB (renM T y) (ren T l) (ren T r) = pairB y l r := by
  unfold pairB renM
  rw [Bool.eq_iff_iff]
  simp only [Bool.and_eq_true, beq_iff_eq]
  rw [hr.eq hy.1.1 hy.1.2 l0 l1, hr.eq hy.2.1 hy.2.2 r0 r1]
theorem rank_renM (hr : Ren T ws.length) (hk : MOk ws ms A B C) {l r : Int} (l0 : 0 ≤ l) (l1 : l < 256 + ws.length) (r0 : 0 ≤ r) (r1 : r < 256 + ws.length) : rankM (ms.map (renM T)) (ren T l) (ren T r) = rankM ms l r := by
  cases hq : rankM ms l r with
  | none =>
    refine rankM_nil fun j y hy => ?_
    rw [List.getElem?_map] at hy
    obtain ⟨x, hx, rfl⟩ := Option.map_eq_some_iff.1 hy
    have hi := hk.ids hx
    rw [pair_renM hr ⟨hi.1, hi.2.1⟩ l0 l1 r0 r1]
    exact rankM_none hq j x hx
  | some k =>
    obtain ⟨x, hx, hp, hb⟩ := rankM_get hq
    have hi := hk.ids hx
    refine rankM_some (x := renM T x) (by rw [List.getElem?_map, hx]; rfl) (by rw [pair_renM hr ⟨hi.1, hi.2.1⟩ l0 l1 r0 r1]; exact hp) fun j y hj hy => ?_
    rw [List.getElem?_map] at hy
    obtain ⟨z, hz, rfl⟩ := Option.map_eq_some_iff.1 hy
    have hi2 := hk.ids hz
    rw [pair_renM hr ⟨hi2.1, hi2.2.1⟩ l0 l1 r0 r1]
    exact hb j z hj hz
theorem merge_renM (hr : Ren T ws.length) (hk : MOk ws ms A B C) {l r : Int} (l0 : 0 ≤ l) (l1 : l < 256 + ws.length) (r0 : 0 ≤ r) (r1 : r < 256 + ws.length) : mergeM (ms.map (renM T)) (ren T l) (ren T r) = (mergeM ms l r).map fun p => (p.1, ren T p.2) := by
  unfold mergeM
  rw [rank_renM hr hk l0 l1 r0 r1]
  cases hq : rankM ms l r with
  | none => rfl
  | some k =>
    simp only [Option.bind_some, List.getElem?_map]
    cases ms[k]? <;> rfl
theorem named_ok (hr : Ren T ws.length) (hk : MOk ws ms A B C) (h : Moved T ws es ws.length) : checkD es (ms.map (renM T)) A B C = (0, 0, 0) := by
  have hes : ∀ (j : Nat), j < ws.length → ∃ (i : Nat) (x : ByteArray), ws[i]? = some x ∧ es[j]? = some x ∧ (ren T (256 + i) - 256).toNat = j := fun j hj => by
    obtain ⟨i, hi, hv⟩ := hr.onto (256 + j) (by omega) (by omega)
    have hil : i < 256 + ws.length := by
      have := (List.getElem?_eq_some_iff.1 hv).1
      rw [hr.len] at this; exact this
    obtain ⟨x, hx⟩ : ∃ x, ws[i - 256]? = some x := ⟨_, List.getElem?_eq_getElem (by omega)⟩
    have hri : ren T (256 + ((i - 256 : Nat) : Int)) = ((256 + j : Nat) : Int) := by
      have := hr.get (id := 256 + ((i - 256 : Nat) : Int)) (by omega) (by omega)
      rw [show ((256 : Int) + ((i - 256 : Nat) : Int)).toNat = i by omega, hv] at this
      exact (Option.some.inj this).symm
    have := h.2 (i - 256) x (by omega) hx
    have e : (ren T (256 + ((i - 256 : Nat) : Int)) - 256).toNat = j := by rw [hri]; omega
    rw [e] at this
    exact ⟨i - 256, x, hx, this, e⟩
  have hW : ∀ j, j < es.length → badW es j = 0 := fun j hj => by
    rw [h.1] at hj
    obtain ⟨i, x, hx, hex, hi⟩ := hes j hj
    have hs := hk.words.size hx
    refine badW_ok hex (by omega) ?_
    cases hq : (es.take j).any (fun v => decide (v = x)) with
    | false => rfl
    | true =>
      obtain ⟨v, hv, hvx⟩ := List.any_eq_true.1 hq
      obtain ⟨j2, hj2⟩ := List.mem_iff_getElem?.1 hv
      have hlt : j2 < j := by
        have := (List.getElem?_eq_some_iff.1 hj2).1
        simp at this; omega
      rw [List.getElem?_take_of_lt hlt] at hj2
      obtain ⟨i2, y, hy, hey, hi2⟩ := hes j2 (by omega)
      have e1 : v = x := by simpa using hvx
      have e2 : y = x := by rw [← e1]; exact Option.some.inj (hey.symm.trans hj2)
      rw [e2] at hy
      have := hk.words.inj hy hx
      subst this
      omega
  have hM : ∀ j, j < (ms.map (renM T)).length → badM es (ms.map (renM T)) j = 0 := fun j hj => by
    have hj : j < ms.length := by simpa using hj
    obtain ⟨x, hx⟩ : ∃ x, ms[j]? = some x := ⟨_, List.getElem?_eq_getElem hj⟩
    have hx' : (ms.map (renM T))[j]? = some (renM T x) := by rw [List.getElem?_map, hx]; rfl
    obtain ⟨⟨l0, l1⟩, ⟨r0, r1⟩, i0, i1⟩ := hk.ids hx
    obtain ⟨q1, q2, q3, q4, q5, q6⟩ := hk.cut hx
    have hw := hr.word i0 i1
    have hcut : cutM es (ms.map (renM T)) j = 0 := by
      refine cutM_ok hx' ?_ ?_ ?_
      · rintro (h1 | h1 | h1)
        · simp only [renM] at h1; omega
        · simp only [renM] at h1; rw [h.1] at h1; omega
        · simp only [renM] at h1
          rw [made_renM hr hk j (by omega) i1, q3] at h1
          cases h1
      · rintro (h1 | h1)
        · simp only [renM] at h1
          rw [made_renM hr hk j l0 l1, q4] at h1; cases h1
        · simp only [renM] at h1
          rw [made_renM hr hk j r0 r1, q5] at h1; cases h1
      · simp only [renM]
        rw [h.wordM hr (by omega) i1, q6]
        unfold joinM
        rw [h.wordM hr l0 l1, h.wordM hr r0 r1]
    refine badM_ok hx' hcut ?_
    have hb := (badM_zero hx (hk.cuts j hj)).2
    cases hq : ((ms.map (renM T)).take j).any (fun y => pairB y (renM T x).l (renM T x).r) with
    | false => rfl
    | true =>
      obtain ⟨y, hy, hyp⟩ := List.any_eq_true.1 hq
      rw [← List.map_take] at hy
      obtain ⟨z, hz, rfl⟩ := List.mem_map.1 hy
      obtain ⟨j2, hj2⟩ := List.mem_iff_getElem?.1 (List.mem_of_mem_take hz)
      have hi2 := hk.ids hj2
      simp only [renM] at hyp
      have := pair_renM hr (y := z) ⟨hi2.1, hi2.2.1⟩ l0 l1 r0 r1
      unfold renM at this
      rw [this] at hyp
      have : (ms.take j).any (fun y => pairB y x.l x.r) = true := List.any_eq_true.2 ⟨z, hz, hyp⟩
      rw [hb] at this; cases this
  unfold checkD
  have h4 := hk.m4
  have h5 := hk.nm
  rw [if_neg (by simp; omega), if_neg (by simp [h.1, h5]), if_neg (by simpa using hk.cls), if_neg (by rw [firstBad_none hW]; simp), if_neg (by rw [firstBad_none hM]; simp)]
end
end Go.Proofs.YtlnebbciefdpoaaDoor
