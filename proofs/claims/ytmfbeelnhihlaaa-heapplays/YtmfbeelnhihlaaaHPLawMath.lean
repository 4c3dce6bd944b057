/- The laws of the heap: what their loops keep, without a walk. -/
import Derived.Test.YtmfbeelnhihlaaaHPCount
namespace Go.Proofs.Ytmfbeelnhihlaaa.HP
open Go.RowKit Go.Joins Go.Sort
set_option linter.unusedVariables false
set_option linter.unusedSimpArgs false
theorem spEq_iff (x y : El) : spEq x y = true ↔ x = y := by
  unfold spEq
  constructor
  · intro h
    simp at h
    exact Prod.ext h.1 h.2
  · rintro rfl
    simp
/-- HeapSorts, amid its popping: A, B the two heaps, O what came out. -/
structure Srt (l A B O : List El) : Prop where
  ha : HPf keyE A 0
  hb : HPf keyE B 0
  keys : (A.map keyE).Perm (B.map keyE)
  perm : (O ++ A).Perm l
  last : ∀ o, O.getLast? = some o → ∀ y ∈ A, keyE o ≤ keyE y
theorem Srt.next {l A B O : List El} (h : Srt l A B O) {x y : El} (hx : A[0]? = some x) (hy : B[0]? = some y) : keyE x = keyE y ∧ (∀ o, O.getLast? = some o → keyE o ≤ keyE x) ∧ Srt l (popF keyE A) (popF keyE B) (O ++ [x]) := by
  have hxm : x ∈ A := List.mem_of_getElem? hx
  have hym : y ∈ B := List.mem_of_getElem? hy
  have lx := heap_least_mem keyE h.ha hx
  have ly := heap_least_mem keyE h.hb hy
  have hxy : keyE x = keyE y := by
    have h1 : keyE y ∈ A.map keyE := h.keys.mem_iff.2 (List.mem_map_of_mem hym)
    have h2 : keyE x ∈ B.map keyE := h.keys.mem_iff.1 (List.mem_map_of_mem hxm)
    obtain ⟨a, ha, e1⟩ := List.mem_map.1 h1
    obtain ⟨b, hb, e2⟩ := List.mem_map.1 h2
    have := lx a ha
    have := ly b hb
    omega
  have pa := popF_perm keyE hx
  have pb := popF_perm keyE hy
  refine ⟨hxy, fun o ho => h.last o ho x hxm, popF_heap keyE h.ha, popF_heap keyE h.hb, ?_, ?_, ?_⟩
  · have h1 : (keyE x :: (popF keyE A).map keyE).Perm (A.map keyE) := by
      have := pa.map keyE
      simpa using this
    have h2 : (keyE y :: (popF keyE B).map keyE).Perm (B.map keyE) := by
      have := pb.map keyE
      simpa using this
    rw [← hxy] at h2
    exact ((h1.trans h.keys).trans h2.symm).cons_inv
  · rw [List.append_assoc]
    exact (List.Perm.append_left O pa).trans h.perm
  · intro o ho z hz
    simp at ho
    subst ho
    exact lx z (pa.mem_iff.1 (List.mem_cons_of_mem _ hz))
/-- HeapPlays: the last place up to j at which x stands. -/
def lastIx (M : List El) (x : El) : Nat → Int
  | 0 => -1
  | j + 1 => match M[j]? with
    | some y => if spEq y x then (j : Int) else lastIx M x j
    | none => lastIx M x j
theorem lastIx_spec (M : List El) (x : El) : ∀ j, (lastIx M x j = -1 ∧ ∀ i, i < j → M[i]? ≠ some x) ∨ ∃ k : Nat, lastIx M x j = (k : Int) ∧ k < j ∧ M[k]? = some x
  | 0 => .inl ⟨rfl, fun i hi => by omega⟩
  | j + 1 => by
    unfold lastIx
    cases hy : M[j]? with
    | none =>
      simp only
      rcases lastIx_spec M x j with ⟨h1, h2⟩ | ⟨k, h1, h2, h3⟩
      · refine .inl ⟨h1, fun i hi => ?_⟩
        by_cases e : i = j
        · rw [e, hy]; simp
        · exact h2 i (by omega)
      · exact .inr ⟨k, h1, by omega, h3⟩
    | some y =>
      simp only
      by_cases hs : spEq y x = true
      · rw [if_pos hs]
        rw [spEq_iff] at hs
        exact .inr ⟨j, rfl, by omega, by rw [hy, hs]⟩
      · rw [if_neg hs]
        rcases lastIx_spec M x j with ⟨h1, h2⟩ | ⟨k, h1, h2, h3⟩
        · refine .inl ⟨h1, fun i hi => ?_⟩
          by_cases e : i = j
          · rw [e, hy]
            intro e2
            cases e2
            exact hs (spEq_self _)
          · exact h2 i (by omega)
        · exact .inr ⟨k, h1, by omega, h3⟩
theorem lastIx_step (M : List El) (x : El) (j : Nat) {y : El} (hy : M[j]? = some y) : lastIx M x (j + 1) = if spEq y x then (j : Int) else lastIx M x j := by
  conv => lhs; unfold lastIx
  rw [hy]
theorem lastIx_mem {M : List El} {x : El} (h : x ∈ M) : ∃ k : Nat, lastIx M x M.length = (k : Int) ∧ k < M.length ∧ M[k]? = some x := by
  rcases lastIx_spec M x M.length with ⟨h1, h2⟩ | h3
  · obtain ⟨i, hi, e⟩ := List.getElem_of_mem h
    exact absurd (by rw [List.getElem?_eq_getElem hi, e]) (h2 i hi)
  · exact h3
/-- One place of a list is taken out. -/
def cutAt (M : List El) (k : Nat) : List El := M.take k ++ M.drop (k + 1)
theorem cutAt_perm {M : List El} {k : Nat} {x : El} (h : M[k]? = some x) : (x :: cutAt M k).Perm M := by
  have hk := (List.getElem?_eq_some_iff.1 h).1
  have e : M = M.take k ++ x :: M.drop (k + 1) := by
    have h2 := (List.take_append_drop k M).symm
    rw [List.drop_eq_getElem_cons hk] at h2
    have h3 : M[k] = x := by
      have := List.getElem?_eq_getElem hk
      rw [h] at this
      exact (Option.some.inj this).symm
    rw [h3] at h2
    exact h2
  unfold cutAt
  conv => rhs; rw [e]
  exact List.perm_middle.symm
theorem cutAt_length {M : List El} {k : Nat} (h : k < M.length) : (cutAt M k).length = M.length - 1 := by
  unfold cutAt
  simp
  omega
/-- HeapPlays, behind each turn: L the heap's things, M the law's own. -/
structure Ply (L M : List El) : Prop where
  h : HPf keyE L 0
  p : L.Perm M
theorem Ply.push {L M : List El} (h : Ply L M) (x : El) : Ply (pushF keyE L x) (M ++ [x]) :=
  ⟨pushF_heap keyE x h.h, (pushF_perm keyE L x).trans ((h.p.cons x).trans (List.perm_append_singleton x M).symm)⟩
theorem Ply.pop {L M : List El} (h : Ply L M) {x : El} (hx : L[0]? = some x) : (∀ y ∈ M, keyE x ≤ keyE y) ∧ ∃ k : Nat, lastIx M x M.length = (k : Int) ∧ k < M.length ∧ M[k]? = some x ∧ Ply (popF keyE L) (cutAt M k) := by
  have hm : x ∈ M := h.p.mem_iff.1 (List.mem_of_getElem? hx)
  obtain ⟨k, h1, h2, h3⟩ := lastIx_mem hm
  refine ⟨fun y hy => heap_least_mem keyE h.h hx y (h.p.mem_iff.2 hy), k, h1, h2, h3, popF_heap keyE h.h, ?_⟩
  exact (((popF_perm keyE hx).trans h.p).trans (cutAt_perm h3).symm).cons_inv
end Go.Proofs.Ytmfbeelnhihlaaa.HP
