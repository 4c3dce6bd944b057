/- tesseralaw8.HeapPlays: the walk. -/
import Derived.Test.YtmfbeelnhihlaaaHPOwn
namespace Go.Proofs.Ytmfbeelnhihlaaa.HP
open Go.RowKit Go.Joins Go.Sort
set_option linter.unusedVariables false
set_option linter.unusedSimpArgs false
set_option maxRecDepth 100000
/-- The slice that begins at a holds the numbers l. -/
def INS (w : World) (a : Option Addr) (l : List Int) : Prop :=
  l = [] ∨ ∃ b off, a = some ⟨b, off, none⟩ ∧ ∀ i x, l[i]? = some x → w.cell? ⟨b, off + i, none⟩ = some (.int .i64 x)
/-- A row that is cut to its first k things still owns these. -/
theorem RowE.cut {w : World} {base b n cap : Nat} {L : List El} (h : RowE w base (.slice (some ⟨b, 0, none⟩) n cap) L) {k : Nat} (hk : k ≤ n) : RowE w base (.slice (some ⟨b, 0, none⟩) k cap) (L.take k) := by
  have hn := h.len
  have : ∀ d, k + d = n → RowE w base (.slice (some ⟨b, 0, none⟩) k cap) (L.take k) := by
    intro d
    induction d generalizing n L with
    | zero =>
      intro e
      obtain rfl : k = n := e
      rw [List.take_of_length_le (by omega)]
      exact h
    | succ d ih =>
      intro e
      obtain ⟨m, rfl⟩ : ∃ m, n = m + 1 := ⟨n - 1, by omega⟩
      have h1 := h.pop
      have := ih h1 (by omega) (by rw [List.length_take]; omega) (by omega)
      rwa [List.take_take, Nat.min_eq_left (by omega)] at this
  exact this (n - k) (by omega)
/-- One place is taken out of a row: 'append(in[:k], in[k+1:]...)'. -/
theorem run_cut (W : World) (base b n cap : Nat) (M : List El) (k : Nat) (hk : k < n) (h : RowE W base (.slice (some ⟨b, 0, none⟩) n cap) M) (c2 : Nat) (ad : Addr) (had : ad = ⟨b, (k + 1) * 2, none⟩ ∨ k + 1 = n) :
    ∃ w', (Builtin.append_ #[30, 30] 30 #[.slice (some ⟨b, 0, none⟩) k cap, .slice (some ad) (n - (k + 1)) c2]).run Try.prog W = .ok (.slice (some ⟨b, 0, none⟩) (n - 1) cap) w' ∧ RowE w' base (.slice (some ⟨b, 0, none⟩) (n - 1) cap) (cutAt M k) ∧ W.grownBy w' (some b) := by
  obtain ⟨i0, hi0, hz0, hz1, hz2⟩ := info_parts infoE
  have hn := h.len
  have hc := h.cut (k := k) (by omega)
  have hown : W.ownsRow base 34 2 (.slice (some ⟨b, 0, none⟩) k cap) k ((M.take k).flatMap cellsE) := by
    have h2 := hc
    unfold RowE at h2
    rwa [show (M.take k).length = k by simp; omega] at h2
  have hcap : n ≤ cap := by
    rcases h.2 with ⟨h1, _⟩ | ⟨g, c, cur, h1, _, _, h3, _⟩
    · cases h1
    · cases h1; omega
  have hsrc : ∀ j u, ((M.drop (k + 1)).flatMap cellsE)[j]? = some u → W.cell? (ad.add j) = some u := by
    intro j u hj
    rcases had with rfl | had
    · have hl := (List.getElem?_eq_some_iff.1 hj).1
      rw [flatE_length, List.length_drop] at hl
      obtain ⟨x, hx⟩ : ∃ x, (M.drop (k + 1))[j / 2]? = some x := ⟨_, List.getElem?_eq_getElem (by rw [List.length_drop]; omega)⟩
      have hx2 : M[k + 1 + j / 2]? = some x := by rw [List.getElem?_drop] at hx; exact hx
      have hat := h.at' hx2
      have hg := flatE_get _ _ _ hx (j % 2) (Nat.mod_lt _ (by omega))
      rw [show j / 2 * 2 + j % 2 = j by omega, hj] at hg
      rw [cell_add]
      rcases Nat.mod_two_eq_zero_or_one j with e | e
      · rw [e] at hg
        rw [show (k + 1) * 2 + j = (k + 1 + j / 2) * 2 by omega, hat.1, hg]
        rfl
      · rw [e] at hg
        rw [show (k + 1) * 2 + j = (k + 1 + j / 2) * 2 + 1 by omega, hat.2, hg]
        rfl
    · rw [List.drop_of_length_le (by omega)] at hj
      simp at hj
  obtain ⟨w', h1, h2, h3⟩ := run_append_fits (P := Try.prog) W base 30 30 34 i0 2 Try.underlying30 hi0 hz1 b k cap ((M.take k).flatMap cellsE) hown ad (n - (k + 1)) c2 ((M.drop (k + 1)).flatMap cellsE) (by rw [flatE_length, List.length_drop]; omega) hsrc (fun v hv => by
    obtain ⟨y, _, hy⟩ := List.mem_flatMap.1 hv
    exact cellsE_one y v hy) (by omega)
  rw [show k + (n - (k + 1)) = n - 1 by omega] at h1 h2
  refine ⟨w', h1, ?_, h3⟩
  unfold RowE cutAt
  rw [List.flatMap_append, show (M.take k ++ M.drop (k + 1)).length = n - 1 by simp; omega]
  exact h2
/-- A new list of what a slice holds: 'append([]Pair{}, first...)'. -/
theorem run_list (W : World) (a : Option Addr) (cap : Nat) (l : List El) (hlen : l.length ≤ 1099511627776) (h : SPS W a l) :
    ∃ u w', (Builtin.append_ #[30, 30] 30 #[.slice (some ⟨W.heap.size, 0, none⟩) 0 0, .slice a l.length cap]).run Try.prog (W.alloc (.cells #[] 34)) = .ok u w' ∧ RowE w' W.heap.size u l ∧ Below W.heap.size W w' := by
  have hb : Below W.heap.size W (W.alloc (.cells #[] 34)) := (Below.refl _ W).alloc (Nat.le_refl _) _
  have hown : (W.alloc (.cells #[] 34)).ownsRow W.heap.size 34 2 (.slice (some ⟨W.heap.size, 0, none⟩) 0 0) 0 [] :=
    ⟨rfl, .inr ⟨W.heap.size, 0, #[], rfl, Nat.le_refl _, heap_alloc_new W _, Nat.le_refl _, by simp [maxLen], rfl, rfl⟩⟩
  obtain ⟨i0, hi, hz0, hz1, hz2⟩ := info_parts infoE
  cases a with
  | none =>
    have hl : l = [] := by
      rcases h with h | ⟨b, off, h, _⟩
      · exact h
      · cases h
    subst hl
    refine ⟨_, _, ?_, hown, hb⟩
    simp [Builtin.append_, run_underlying Try.underlying30, Builtin.lenOf, Builtin.firstCells, sizeOf, typeInfo, hi, storeCells]
  | some x =>
    obtain ⟨v', w', h1, h2, h3, h4⟩ := run_append_own (P := Try.prog) (W.alloc (.cells #[] 34)) W.heap.size 30 30 34 i0 _ 2 16 Try.underlying30 hi hz0 hz1 hz2 rfl (by decide) _ 0 [] hown x l.length cap (l.flatMap cellsE) (flatE_length l) (h.below hb).cells (fun v hv => by
      obtain ⟨y, _, hy⟩ := List.mem_flatMap.1 hv
      exact cellsE_one y v hy) (by unfold maxLen; omega) (by omega) (by simp)
    rw [Nat.zero_add, List.nil_append] at h2
    exact ⟨v', w', h1, h2, hb.grown h3 (by simp) (fun k hk => by
      have : k = W.heap.size := by simpa [Value.ownBlock] using hk.symm
      omega)⟩
end Go.Proofs.Ytmfbeelnhihlaaa.HP
