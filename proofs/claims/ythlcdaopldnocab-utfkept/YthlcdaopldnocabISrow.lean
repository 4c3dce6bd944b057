/- A row of slices that a call itself made, which may begin behind its block's head: appended to, cut at its front. -/
import Derived.Test.YthlcdaopldnocabOwn
import Derived.Deep.AppendSrc
import Derived.WalkSpells
import Derived.WalkLawsBesides
namespace Go.Proofs.Ythlcdaopldnocab
open Go.RowKit
open Go.Joins
def SRow (w : World) (base : Nat) (v : Value) (xs : List Value) : Prop :=
  (v = .slice none 0 0 ∧ xs = []) ∨ ∃ g off cap cur, v = .slice (some ⟨g, off, none⟩) xs.length cap ∧ base ≤ g ∧ w.heap[g]? = some (.cells cur 25 (0, 0)) ∧ off + cap ≤ cur.size ∧ cap ≤ maxLen ∧ xs.length ≤ cap ∧
    ∀ j, j < xs.length → cur[off + j]? = xs[j]?
theorem SRow.nil (w : World) (base : Nat) : SRow w base (.slice none 0 0) [] := .inl ⟨rfl, rfl⟩
/-- Whatever leaves its block leaves it. -/
theorem SRow.kept {w w' : World} {base : Nat} {v : Value} {xs : List Value} (h : SRow w base v xs) (hk : ∀ g, v.ownBlock = some g → w'.heap[g]? = w.heap[g]?) : SRow w' base v xs := by
  rcases h with h | ⟨g, off, cap, cur, rfl, hb, hh, r⟩
  · exact .inl h
  · exact .inr ⟨g, off, cap, cur, rfl, hb, by rw [hk g rfl]; exact hh, r⟩
theorem SRow.lt {w : World} {base : Nat} {v : Value} {xs : List Value} (h : SRow w base v xs) : ∀ g, v.ownBlock = some g → base ≤ g ∧ g < w.heap.size := by
  intro g hg
  rcases h with ⟨rfl, _⟩ | ⟨g', off, cap, cur, rfl, hb, hh, _⟩
  · cases hg
  · cases hg; exact ⟨hb, (Array.getElem?_eq_some_iff.1 hh).1⟩
theorem SRow.form {w : World} {base : Nat} {v : Value} {xs : List Value} (h : SRow w base v xs) (h0 : 0 < xs.length) :
    ∃ g off cap, v = .slice (some ⟨g, off, none⟩) xs.length cap ∧ base ≤ g ∧ g < w.heap.size ∧ xs.length ≤ cap ∧ cap ≤ maxLen ∧ ∀ j (hj : j < xs.length), w.cell? ⟨g, off + j, none⟩ = some xs[j] := by
  rcases h with ⟨_, rfl⟩ | ⟨g, off, cap, cur, hv, hb, hh, hs, hm, hl, hc⟩
  · simp at h0
  · refine ⟨g, off, cap, hv, hb, (Array.getElem?_eq_some_iff.1 hh).1, hl, hm, fun j hj => ?_⟩
    rw [cell_of_block hh, hc j hj, List.getElem?_eq_getElem hj]
/-- The front one is cut off. -/
theorem SRow.tail {w : World} {base g off n cap : Nat} {x : Value} {xs : List Value} (h : SRow w base (.slice (some ⟨g, off, none⟩) n cap) (x :: xs)) (_hn : n = xs.length + 1) : SRow w base (.slice (some ⟨g, off + 1, none⟩) xs.length (cap - 1)) xs := by
  rcases h with ⟨h, _⟩ | ⟨g', off', cap', cur, hv, hb, hh, hs, hm, hl, hc⟩
  · simp at h
  · simp only [Value.slice.injEq, Option.some.injEq, Addr.mk.injEq, and_true] at hv
    obtain ⟨⟨rfl, rfl⟩, _, rfl⟩ := hv
    simp only [List.length_cons] at hl hc
    refine .inr ⟨g, off + 1, cap - 1, cur, rfl, hb, hh, by omega, by omega, by omega, fun j hj => ?_⟩
    have := hc (j + 1) (by omega)
    rw [show off + 1 + j = off + (j + 1) from by omega, this]
    simp
theorem infoS : (Try.prog.info? 25).map (fun i => (i.zero, i.size, i.bytes)) = some (some (.slice none 0 0), 1, 24) := by kernel_rfl
theorem ownsRow_srow {w : World} {base : Nat} {v : Value} {xs : List Value} (h : w.ownsRow base 25 1 v xs.length xs) : SRow w base v xs := by
  rcases h.2 with ⟨hv, hn⟩ | ⟨g, cap, cur, hv, hb, hh, hn, hm, hs, ht⟩
  · exact .inl ⟨hv, List.eq_nil_of_length_eq_zero hn⟩
  · refine .inr ⟨g, 0, cap, cur, hv, hb, hh, by omega, hm, hn, fun j hj => ?_⟩
    have e : xs[j]? = (cur.toList.take (xs.length * 1))[j]? := by rw [ht]
    rw [e, List.getElem?_take, if_pos (by omega), Nat.zero_add]
    simp
/-- One more behind. -/
theorem run_push (W : World) (base : Nat) (v : Value) (xs : List Value) (X : Value) (h : Nat) (c : Nat) (hX : X.oneCell' = true) (hrow : SRow W base v xs) (hx : W.cell? ⟨h, 0, none⟩ = some X) (hb : base ≤ W.heap.size) (hsz : xs.length ≤ 1000000) :
    ∃ v' W', (Builtin.append_ #[34, 34] 34 #[v, .slice (some ⟨h, 0, none⟩) 1 c]).run Try.prog W = .ok v' W' ∧ SRow W' base v' (xs ++ [X]) ∧ W.grownBy W' v.ownBlock ∧
      (v'.ownBlock = v.ownBlock ∨ ∃ g, v'.ownBlock = some g ∧ W.heap.size ≤ g) := by
  obtain ⟨i0, hi, hz0, hz1, hz2⟩ := info_parts infoS
  have hnews : ∀ j u, [X][j]? = some u → W.cell? ((⟨h, 0, none⟩ : Addr).add j) = some u := by
    intro j u hu
    match j, hu with
    | 0, hu => simp at hu; subst hu; simpa [Addr.add] using hx
  have h1 : ∀ u ∈ [X], u.oneCell' = true := by intro u hu; simp at hu; subst hu; exact hX
  have hsrc := Src.ofSlice (P := Try.prog) (w := W) (size := 1) (tx := 34) (e' := 25) Try.underlying34 ⟨h, 0, none⟩ 1 c [X] rfl hnews h1
  rcases hrow with ⟨rfl, rfl⟩ | ⟨g, off, cap, cur, rfl, hbg, hh, hs, hm, hl, hc⟩
  · obtain ⟨v', w', r1, r2, r3, r4⟩ := run_append_own (P := Try.prog) W W.heap.size 34 34 25 i0 (.slice none 0 0) 1 24 Try.underlying34 hi hz0 hz1 hz2 rfl (by decide) (.slice none 0 0) 0 [] (World.ownsRow_nil W _ _ _) ⟨h, 0, none⟩ 1 c [X] rfl hnews h1 (by decide) (by decide) (Nat.le_refl _)
    have r5 : SRow w' W.heap.size v' [X] := ownsRow_srow r2
    obtain ⟨g, off, cap, hv, hg, _⟩ := r5.form (by simp)
    refine ⟨v', w', r1, ?_, r3, .inr ⟨g, by rw [hv]; rfl, hg⟩⟩
    rcases r5 with h | ⟨g, off, cap, cur, e1, e2, e3⟩
    · exact .inl h
    · exact .inr ⟨g, off, cap, cur, e1, Nat.le_trans hb e2, e3⟩
  · by_cases hroom : xs.length + 1 ≤ cap
    · have hcellS : (W.cell? ⟨g, off + xs.length, none⟩).isSome = true := by
        rw [cell_of_block hh, Array.getElem?_eq_getElem (by omega)]; rfl
      have hr := run_append_room_src (P := Try.prog) W 34 34 34 25 i0 Try.underlying34 hi g off xs.length cap _ 1 [X] (by rw [hz1]; exact hsrc) hroom (fun j hj => by
        have : j = 0 := by simpa using hj
        subst this; rw [hz1]; simpa using hcellS) (fun j hj => by rw [hz1]; exact unfrozen_of_block hh _)
      rw [hz1, Nat.mul_one] at hr
      have e : W.setCells g (off + xs.length) [X] = W.setCell ⟨g, off + xs.length, none⟩ X := rfl
      rw [e] at hr
      have hblk := block_setCell hh (i := off + xs.length) X
      refine ⟨_, _, hr, ?_, ⟨rfl, rfl, rfl, by simp [World.setCell], fun k hk hne => Below.heap_setCell _ _ _ _ (by intro e; apply hne; rw [e]; rfl)⟩, .inl rfl⟩
      refine .inr ⟨g, off, cap, _, by simp, hbg, hblk, by simpa using hs, hm, by simp; omega, fun j hj => ?_⟩
      simp only [List.length_append, List.length_cons, List.length_nil] at hj
      rw [Array.getElem?_setIfInBounds]
      by_cases hjl : j = xs.length
      · subst hjl; rw [if_pos rfl, if_pos (by omega)]; simp
      · rw [if_neg (by omega), hc j (by omega), List.getElem?_append_left (by omega)]
    · have holds : ∀ j u, xs[j]? = some u → W.cell? ((⟨g, off, none⟩ : Addr).add j) = some u := by
        intro j u hu
        have hj : j < xs.length := (List.getElem?_eq_some_iff.1 hu).1
        rw [Go.WideShapes.add_plain, cell_of_block hh, hc j hj]; exact hu
      have hcap : cap = xs.length := by omega
      have hr := run_append_grow_src (P := Try.prog) W 34 34 34 25 i0 (.slice none 0 0) Try.underlying34 hi hz0 (some ⟨g, off, none⟩) xs.length cap xs
        (by rw [hz1]; exact run_firstCells_some (P := Try.prog) W.drew 1 xs.length ⟨g, off, none⟩ xs.length cap xs (by omega) (by simpa using holds)) _ 1 [X] (by rw [hz1]; exact hsrc) (by omega) (by omega)
        (by rw [hz2]; exact growslice_fits (by omega) (by omega))
      refine ⟨_, _, hr, ?_, ⟨rfl, rfl, rfl, by simp, fun k hk _ => heap_alloc_old W.drew _ hk⟩, .inr ⟨_, rfl, Nat.le_refl _⟩⟩
      have hge := grownCap_ge W (xs.length + 1) cap 25
      have hcm : grownCap W (xs.length + 1) cap 25 ≤ maxLen := grownCap_le_maxLen W _ _ _ (by simp [maxLen]; omega)
      refine .inr ⟨W.heap.size, 0, _, _, by simp, hb, heap_alloc_new W.drew _, ?_, hcm, by simpa using hge, fun j hj => ?_⟩
      · simp [Builtin.zeroCells, Value.cells]
        omega
      · rw [Nat.zero_add, Array.getElem?_append_left (by simpa using hj)]
        simp
end Go.Proofs.Ythlcdaopldnocab
