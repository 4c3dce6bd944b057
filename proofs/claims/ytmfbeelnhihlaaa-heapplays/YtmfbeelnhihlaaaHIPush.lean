/- heap's Push: its contract. -/
import Derived.Test.YtmfbeelnhihlaaaHICalls
namespace Go.Proofs.Ytmfbeelnhihlaaa.HI
open Go.RowKit Go.Joins Go.Sort
set_option linter.unusedVariables false
set_option linter.unusedSimpArgs false
set_option maxRecDepth 100000
theorem info_parts {T : TypeId} {z : Value} {k b : Nat} (h : (Try.prog.info? T).map (fun i => (i.zero, i.size, i.bytes)) = some (some z, k, b)) : ∃ i, Try.prog.info? T = some i ∧ i.zero = some z ∧ i.size = k ∧ i.bytes = b := by
  cases hi : Try.prog.info? T with
  | none => rw [hi] at h; cases h
  | some i =>
    rw [hi] at h
    simp only [Option.map_some, Option.some.injEq, Prod.mk.injEq] at h
    exact ⟨i, rfl, h.1, h.2.1, h.2.2⟩
theorem infoE : (Try.prog.info? 3).map (fun i => (i.zero, i.size, i.bytes)) = some (some (valE zeroE), 1, 8) := by kernel_rfl
theorem cellsE_one : ∀ (x : El), ∀ v ∈ cellsE x, v.oneCell' = true := by
  intro x v hv
  unfold cellsE at hv
  simp at hv
  subst hv; rfl
theorem run_push (W : World) (base : Nat) (v : Value) (L : List El) (x : El) (b : Nat) (hown : RowE W base v L) (hx : W.heap[b]? = some (.cells (cellsE x).toArray 3 (0, 0))) (hb : base ≤ W.heap.size) (hl : L.length + 1 ≤ 2199023255552) :
    ∃ v' w', (Builtin.append_ #[31, 31] 31 #[v, .slice (some ⟨b, 0, none⟩) 1 1]).run Try.prog W = .ok v' w' ∧ RowE w' base v' (L ++ [x]) ∧ W.grownBy w' v.ownBlock ∧ Moved v v' W.heap.size := by
  obtain ⟨i0, hi0, hz0, hz1, hz2⟩ := info_parts infoE
  exact run_own_g 31 3 i0 _ 1 8 cellsE (fun _ => rfl) (by omega) cellsE_one Try.underlying31 hi0 hz0 hz1 hz2 rfl W base v L x b 1 hown hx hb (by omega) (by omega)
set_option maxHeartbeats 1000000 in
theorem push_any (base g : Nat) (v : Value) (L : List El) (x : El) (w : World) (h : HeapAt w base g v L) (hlen : L.length + 1 ≤ 1099511627776) :
    Calls Try.prog 9 #[.pointer (some ⟨g, 0, none⟩), valE x] w fun e w' => ∃ v', e = .returned (.tuple #[]) ∧ HeapAt w' base g v' (pushF keyE L x) ∧ Tn g v v' w w' := by
  have hlt := h.lt
  have hlow := h.low
  have hown := World.ownsRow.lt h.row
  obtain ⟨V, hV⟩ : ∃ V, V = w.alloc (.cells #[.int .i64 x] 3) := ⟨_, rfl⟩
  have hbV : Below w.heap.size w V := by rw [hV]; exact (Below.refl w.heap.size w).alloc (Nat.le_refl _) _
  have hsV : V.heap.size = w.heap.size + 1 := by rw [hV]; simp
  have c1 : w.cell? ⟨g, 1, none⟩ = some v := by rw [cell_of_row w g 1 _ _ _ h.at_]; rfl
  obtain ⟨v', w2, hr, hrow, hgr, hmv⟩ := run_push V base v L x w.heap.size ((h.row).below hbV) (by rw [hV]; exact heap_alloc_new w _) (by omega) (by omega)
  have hne1 : some g ≠ v.ownBlock := fun e => h.ne e.symm
  have hold : ∀ k, k < w.heap.size → some k ≠ v.ownBlock → w2.heap[k]? = w.heap[k]? := fun k hk hne => (hgr.block k (by omega) hne).trans (hbV.block k hk)
  have hp2 : HpAt w2 g v := (hold g hlt hne1).trans h.at_
  have c2 : w2.cell? ⟨g, 1, none⟩ = some v := by rw [cell_of_row w2 g 1 _ _ _ hp2]; rfl
  have f2 : w2.frozen? ⟨g, 1, none⟩ = false := frozen_of_row w2 g 1 _ _ hp2
  have hold : ∀ k, k < w.heap.size → k ≠ g → some k ≠ v.ownBlock → w2.heap[k]? = w.heap[k]? := fun k hk _ hne => hold k hk hne
  have hst : w2.os = w.os ∧ w2.tape = w.tape ∧ w2.output = w.output ∧ w.heap.size ≤ w2.heap.size := ⟨hgr.os.trans hbV.os, hgr.tape.trans hbV.tape, hgr.output.trans hbV.output, Nat.le_trans (by omega) hgr.size⟩
  have hmv' : Moved v v' w.heap.size := fun q hb => by
    rcases hmv q hb with h3 | h3
    · exact .inl h3
    · exact .inr (by omega)
  obtain ⟨M, hM⟩ : ∃ M, M = L ++ [x] := ⟨_, rfl⟩
  have hpf : pushF keyE L x = riseF keyE M.length M (M.length - 1) := by rw [hM]; unfold pushF; simp
  have hMl : M.length = L.length + 1 := by rw [hM]; simp
  rw [← hM] at hrow
  rw [hpf]
  clear hM hpf
  obtain ⟨n, hn⟩ : ∃ n, n = M.length := ⟨_, rfl⟩
  obtain ⟨b, cap, rfl⟩ : ∃ b cap, v' = .slice (some ⟨b, 0, none⟩) n cap := by
    rcases ownsRow_forms hrow with ⟨rfl, h0⟩ | ⟨b, cap, rfl⟩
    · omega
    · exact ⟨_, _, by rw [hn]⟩
  have HN : Hid (n = M.length) := hn
  have HML : Hid (M.length = L.length + 1) := hMl
  obtain ⟨R, hR⟩ : ∃ R, R = riseF keyE M.length M (M.length - 1) := ⟨_, rfl⟩
  rw [← hR]
  have HR : Hid (R = riseF keyE M.length M (M.length - 1)) := hR
  clear hn hMl hR
  unfold valE
  rw [hV] at hr
  clear hgr hmv hbV hsV hV hne1
  go_enter Try.func9, Try.ntmps9
  go_upto_region 1 with (at_builtin; refine wpList_append_run rfl (.tmp 8) (.tmp 10) 31 31 rfl _ _ rfl rfl _ w2 hr ?_)
  have hgb : g ≠ b := fun e => by
    rcases hmv' b rfl with h3 | h3
    · exact h.ne (by rw [e]; exact h3)
    · omega
  have hp3 := hp2.turn (.slice (some ⟨b, 0, none⟩) n cap)
  have p3 : RowE (w2.setCell ⟨g, 1, none⟩ (.slice (some ⟨b, 0, none⟩) n cap)) base (.slice (some ⟨b, 0, none⟩) n cap) M := ownsRow_setCell_other hrow (fun e => hgb (by cases e; rfl)) _
  have HS := rise_any g b cap base (.slice (some ⟨b, 0, none⟩) n cap) M (w2.setCell ⟨g, 1, none⟩ (.slice (some ⟨b, 0, none⟩) n cap)) hp3 (by rw [← HN.out]; exact p3) hgb (by rw [HML.out]; omega) (by rw [HML.out]; omega)
  rw [← HR.out, ← HN.out] at HS
  refine wp_named fun X9 hX9 => ?_
  rw [← hX9] at HS hp3
  have G9 : ∀ k, k < w.heap.size → k ≠ g → some k ≠ v.ownBlock → X9.heap[k]? = w.heap[k]? := by
    intro k hk h1 h2
    rw [hX9, heap_setCell_other w2 ⟨g, 1, none⟩ k _ h1, hold k hk h1 h2]
  have hs9 : w.heap.size ≤ X9.heap.size := by rw [hX9]; simp; exact hst.2.2.2
  have G9s : X9.os = w.os ∧ X9.tape = w.tape ∧ X9.output = w.output := by rw [hX9]; exact ⟨hst.1, hst.2.1, hst.2.2.1⟩
  have c9 : X9.cell? ⟨g, 1, none⟩ = some (.slice (some ⟨b, 0, none⟩) n cap) := by rw [cell_of_row X9 g 1 _ _ _ hp3]; rfl
  clear hX9 hp2 c2 f2 hold hst hrow p3
  go_wp2_with fail
  refine HS.mono ?_
  rintro e w4 ⟨rfl, hrw, hgr⟩
  have hp4 := hp3.grown hgr hgb
  clear HS c9
  go_wp2_with fail
  go_end0
  refine ⟨_, rfl, ⟨hlow, hp4, hrw, fun e => hgb (by cases e; rfl)⟩, hgr.os.trans G9s.1, hgr.tape.trans G9s.2.1, hgr.output.trans G9s.2.2, Nat.le_trans hs9 hgr.size, ?_, hmv'⟩
  intro k hk h1 h2
  refine (hgr.block k (by omega) (fun e => ?_)).trans (G9 k hk h1 h2)
  cases e
  rcases hmv' b rfl with h3 | h3
  · exact h2 h3.symm
  · omega
end Go.Proofs.Ytmfbeelnhihlaaa.HI
