/- spans.common, spans.isRune: their contracts. -/
import Derived.Test.YtlnebbciefdpoaaDoorSEq
import Derived.Lib.QuietBelow
namespace Go.Proofs.YtlnebbciefdpoaaDoor
open Go.RowKit Go.Sort
set_option maxHeartbeats 1000000 in
theorem common_any (x y : Sp) (w : World) (hG : GL w) : Calls Tryd.prog 83 #[spv x, spv y] w fun e w' => e = .returned (spv (comL x y)) ∧ Below w.heap.size w w' := by
  obtain ⟨g0, g1, -⟩ := hG.cells
  clear hG
  have hA0 := cell_alloc_s g0
  have hA1 := cell_alloc_s g1
  have hA2 := fun o => cell_alloc_s (hA0 o)
  have hA3 := fun o => cell_alloc_s (hA1 o)
  have hm : max x.lo y.lo = (if x.lo < y.lo then y.lo else x.lo) := by split <;> omega
  have hn : min x.hi y.hi = (if y.hi < x.hi then y.hi else x.hi) := by split <;> omega
  unfold comL
  rw [hm, hn]
  obtain ⟨m, hM⟩ : ∃ m, (if x.lo < y.lo then y.lo else x.lo) = m := ⟨_, rfl⟩
  obtain ⟨n, hN⟩ : ∃ n, (if y.hi < x.hi then y.hi else x.hi) = n := ⟨_, rfl⟩
  rw [hM, hN]
  clear hm hn g0 g1
  have hb : ∀ a b c d : Obj, Below w.heap.size w ((((w.alloc a).alloc b).alloc c).alloc d) := fun a b c d => ((((Below.refl _ w).alloc (Nat.le_refl _) a).alloc (by simp) b).alloc (by simp; omega) c).alloc (by simp; omega) d
  unfold spv
  by_cases hlt : n < m
  · rw [if_pos hlt]
    go_enter Tryd.func83, Tryd.ntmps83
    go_wp2_with fail
    exact bodyPost_ret (v := spv ⟨0, -1⟩) (by simp [results, Tryd.results83, go_sem, spv]) rfl ⟨rfl, hb _ _ _ _⟩
  · rw [if_neg hlt]
    go_enter Tryd.func83, Tryd.ntmps83
    go_wp2_with fail
    exact bodyPost_ret (v := spv ⟨m, n⟩) (by simp [results, Tryd.results83, go_sem, spv]) rfl ⟨rfl, hb _ _ _ _⟩
/-- The array of all runes, its two spans. -/
theorem part0 (W : World) : (Instr.index 143 (.agg #[.int .i32 0, .int .i32 55295, .int .i32 57344, .int .i32 1114111]) (.int .i64 0)).run Tryd.prog W = .ok (.agg #[.int .i32 0, .int .i32 55295]) W := by kernel_rfl
theorem part1 (W : World) : (Instr.index 143 (.agg #[.int .i32 0, .int .i32 55295, .int .i32 57344, .int .i32 1114111]) (.int .i64 1)).run Tryd.prog W = .ok (.agg #[.int .i32 57344, .int .i32 1114111]) W := by kernel_rfl
set_option maxHeartbeats 1000000 in
theorem isRune_any (r : Int) (w : World) (hG : GL w) : Calls Tryd.prog 82 #[.int .i32 r] w fun e w' => e = .returned (.bool (runeB r)) ∧ Below w.heap.size w w' := by
  have hG0 := hG.below ((Below.refl w.heap.size w).alloc (Nat.le_refl _) (.cells #[.int .i32 r, .int .i32 r] 30))
  have hr : runeB r = true ↔ (0 ≤ r ∧ r ≤ 55295) ∨ (57344 ≤ r ∧ r ≤ 1114111) := by rw [runeB_iff]; omega
  obtain ⟨B, hB⟩ : ∃ B, runeB r = B := ⟨_, rfl⟩
  rw [hB] at hr ⊢
  clear hB
  have hp0 := part0
  have hp1 := part1
  obtain ⟨-, -, g2, g3, g4, g5, -⟩ := hG.cells
  have g2 := cell_alloc_s g2
  have g3 := cell_alloc_s g3
  have g4 := cell_alloc_s g4
  have g5 := cell_alloc_s g5
  clear hG
  go_enter Tryd.func82, Tryd.ntmps82
  have hb0 : Below w.heap.size w (w.alloc (.cells #[.int .i32 r, .int .i32 r] 30)) := (Below.refl _ _).alloc (Nat.le_refl _) _
  have hs0 : w.heap.size < (w.alloc (.cells #[.int .i32 r, .int .i32 r] 30)).heap.size := by simp
  have ho0 : SpAt (w.alloc (.cells #[.int .i32 r, .int .i32 r] 30)) w.heap.size 0 ⟨r, r⟩ := ⟨by simp [go_sem], by simp [go_sem]⟩
  go_wp2_with fail
  clear g2 g3 g4 g5
  obtain ⟨W0, hW0⟩ : ∃ W0, W0 = w.alloc (.cells #[.int .i32 r, .int .i32 r] 30) := ⟨_, rfl⟩
  rw [← hW0] at hG0 hb0 hs0 ho0 ⊢
  clear hW0
  go_loopw [10] (fun i wr => ∃ k : Nat, k ≤ 2 ∧ i = .int .i64 k ∧ Below w.heap.size w wr ∧ w.heap.size < wr.heap.size ∧ SpAt wr w.heap.size 0 ⟨r, r⟩ ∧ GL wr ∧ (0 < k → ¬ (0 ≤ r ∧ r ≤ 55295)) ∧ (1 < k → ¬ (57344 ≤ r ∧ r ≤ 1114111))) (fun i _ => 2 - (intOf i).toNat)
  case atStart => exact ⟨0, Nat.zero_le _, rfl, hb0, hs0, ho0, hG0, by omega, by omega⟩
  case round =>
    clear hG0 hb0 hs0 ho0
    obtain ⟨k, hk, rfl, hb, hsz, ⟨c0, c1⟩, hGr, n0, n1⟩ := hrel
    match k, hk with
    | 0, _ =>
      have q : spEq (comL ⟨r, r⟩ ⟨0, 55295⟩) ⟨r, r⟩ = (decide (0 ≤ r) && decide (r ≤ 55295)) := com_one r ⟨0, 55295⟩
      have hb2 : Below w.heap.size w (wr.alloc (.cells #[.int .i32 0, .int .i32 55295] 30)) := hb.alloc hb.size _
      have hG2 : GL (wr.alloc (.cells #[.int .i32 0, .int .i32 55295] 30)) := hGr.below ((Below.refl _ wr).alloc (Nat.le_refl _) _)
      have o2 : SpAt (wr.alloc (.cells #[.int .i32 0, .int .i32 55295] 30)) w.heap.size 0 ⟨r, r⟩ := SpAt.below ⟨c0, c1⟩ ((Below.refl _ wr).alloc (Nat.le_refl _) _)
      have p2 : SpAt (wr.alloc (.cells #[.int .i32 0, .int .i32 55295] 30)) wr.heap.size 0 ⟨0, 55295⟩ := ⟨by simp [go_sem], by simp [go_sem]⟩
      have s2 : w.heap.size < (wr.alloc (.cells #[.int .i32 0, .int .i32 55295] 30)).heap.size := by simp; omega
      go_wp2_with fail
      obtain ⟨W, hW⟩ : ∃ W, W = wr.alloc (.cells #[.int .i32 0, .int .i32 55295] 30) := ⟨_, rfl⟩
      rw [← hW] at hb2 hG2 o2 p2 s2 ⊢
      clear hW c0 c1 hb hsz hGr hp0 hp1
      have HC := fun d os => common_any ⟨r, r⟩ ⟨0, 55295⟩ (grow (redrawn W d) os) (hG2.below (below_regrown W d os))
      unfold spv at HC
      obtain ⟨v, hv⟩ : ∃ v, spEq (comL ⟨r, r⟩ ⟨0, 55295⟩) ⟨r, r⟩ = v := ⟨_, rfl⟩
      rw [hv] at q
      have HQ : Hid (v = (decide (0 ≤ r) && decide (r ≤ 55295))) := q
      clear q
      have HE := eqIn_sp (comL ⟨r, r⟩ ⟨0, 55295⟩) ⟨r, r⟩ v hv
      have HF := eql_sp (comL ⟨r, r⟩ ⟨0, 55295⟩) ⟨r, r⟩ v hv
      clear hv
      obtain ⟨c, hc⟩ : ∃ c, c = comL ⟨r, r⟩ ⟨0, 55295⟩ := ⟨_, rfl⟩
      rw [← hc] at HC HE HF
      clear hc
      have H2 := o2
      obtain ⟨k0, k1⟩ := o2
      obtain ⟨l0, l1⟩ := p2
      have k0 := cell_regrown k0
      have k1 := cell_regrown k1
      have l0 := cell_regrown l0
      have l1 := cell_regrown l1
      dsimp only at k0 k1 l0 l1 HE HF HC
      refine wp_region_quiet_below (by kernel_rfl) (by kernel_rfl) ?_
      repeat (go_big_quiet_step ((go_at_call 83; exact Calls.regrown_of (HC _ _))))
      refine wpQuiet_nil ?_
      intro W5 hw'
      have hb5 : Below W.heap.size W W5 := by
        obtain ⟨⟨dq, osq⟩, rfl⟩ := hw'
        exact below_regrown _ _ _
      clear hw' k0 k1 l0 l1 HE HF HC
      cases v with
      | true =>
        have hBt : B = true := hr.2 (by have q := HQ.out.symm; simp at q; omega)
        subst hBt
        clear HQ hr n0 n1
        go_wp2_with fail
        go_ret
        exact ⟨rfl, hb2.trans (hb5.mono hb2.size)⟩
      | false =>
        have hn : ¬ (0 ≤ r ∧ r ≤ 55295) := fun ⟨h1, h2⟩ => by have q := HQ.out; rw [decide_eq_true h1, decide_eq_true h2] at q; cases q
        clear HQ
        go_wp2_with fail
        exact ⟨⟨1, by omega, rfl, hb2.trans (hb5.mono hb2.size), Nat.lt_of_lt_of_le s2 hb5.size, H2.below hb5, hG2.below hb5, fun _ => hn, fun h => absurd h (by omega)⟩, by simp [intOf]⟩
    | 1, _ =>
      have q : spEq (comL ⟨r, r⟩ ⟨57344, 1114111⟩) ⟨r, r⟩ = (decide (57344 ≤ r) && decide (r ≤ 1114111)) := com_one r ⟨57344, 1114111⟩
      have hb2 : Below w.heap.size w (wr.alloc (.cells #[.int .i32 57344, .int .i32 1114111] 30)) := hb.alloc hb.size _
      have hG2 : GL (wr.alloc (.cells #[.int .i32 57344, .int .i32 1114111] 30)) := hGr.below ((Below.refl _ wr).alloc (Nat.le_refl _) _)
      have o2 : SpAt (wr.alloc (.cells #[.int .i32 57344, .int .i32 1114111] 30)) w.heap.size 0 ⟨r, r⟩ := SpAt.below ⟨c0, c1⟩ ((Below.refl _ wr).alloc (Nat.le_refl _) _)
      have p2 : SpAt (wr.alloc (.cells #[.int .i32 57344, .int .i32 1114111] 30)) wr.heap.size 0 ⟨57344, 1114111⟩ := ⟨by simp [go_sem], by simp [go_sem]⟩
      have s2 : w.heap.size < (wr.alloc (.cells #[.int .i32 57344, .int .i32 1114111] 30)).heap.size := by simp; omega
      go_wp2_with fail
      obtain ⟨W, hW⟩ : ∃ W, W = wr.alloc (.cells #[.int .i32 57344, .int .i32 1114111] 30) := ⟨_, rfl⟩
      rw [← hW] at hb2 hG2 o2 p2 s2 ⊢
      clear hW c0 c1 hb hsz hGr hp0 hp1
      have HC := fun d os => common_any ⟨r, r⟩ ⟨57344, 1114111⟩ (grow (redrawn W d) os) (hG2.below (below_regrown W d os))
      unfold spv at HC
      obtain ⟨v, hv⟩ : ∃ v, spEq (comL ⟨r, r⟩ ⟨57344, 1114111⟩) ⟨r, r⟩ = v := ⟨_, rfl⟩
      rw [hv] at q
      have HQ : Hid (v = (decide (57344 ≤ r) && decide (r ≤ 1114111))) := q
      clear q
      have HE := eqIn_sp (comL ⟨r, r⟩ ⟨57344, 1114111⟩) ⟨r, r⟩ v hv
      have HF := eql_sp (comL ⟨r, r⟩ ⟨57344, 1114111⟩) ⟨r, r⟩ v hv
      clear hv
      obtain ⟨c, hc⟩ : ∃ c, c = comL ⟨r, r⟩ ⟨57344, 1114111⟩ := ⟨_, rfl⟩
      rw [← hc] at HC HE HF
      clear hc
      have H2 := o2
      obtain ⟨k0, k1⟩ := o2
      obtain ⟨l0, l1⟩ := p2
      have k0 := cell_regrown k0
      have k1 := cell_regrown k1
      have l0 := cell_regrown l0
      have l1 := cell_regrown l1
      dsimp only at k0 k1 l0 l1 HE HF HC
      refine wp_region_quiet_below (by kernel_rfl) (by kernel_rfl) ?_
      repeat (go_big_quiet_step ((go_at_call 83; exact Calls.regrown_of (HC _ _))))
      refine wpQuiet_nil ?_
      intro W5 hw'
      have hb5 : Below W.heap.size W W5 := by
        obtain ⟨⟨dq, osq⟩, rfl⟩ := hw'
        exact below_regrown _ _ _
      clear hw' k0 k1 l0 l1 HE HF HC
      cases v with
      | true =>
        have hBt : B = true := hr.2 (by have q := HQ.out.symm; simp at q; omega)
        subst hBt
        clear HQ hr n0 n1
        go_wp2_with fail
        go_ret
        exact ⟨rfl, hb2.trans (hb5.mono hb2.size)⟩
      | false =>
        have hn : ¬ (57344 ≤ r ∧ r ≤ 1114111) := fun ⟨h1, h2⟩ => by have q := HQ.out; rw [decide_eq_true h1, decide_eq_true h2] at q; cases q
        clear HQ
        go_wp2_with fail
        exact ⟨⟨2, by omega, rfl, hb2.trans (hb5.mono hb2.size), Nat.lt_of_lt_of_le s2 hb5.size, H2.below hb5, hG2.below hb5, fun _ => n0 (by omega), fun _ => hn⟩, by simp [intOf]⟩
    | 2, _ =>
      have hBf : B = false := by
        cases B with
        | false => rfl
        | true => exact absurd (hr.1 rfl) (by have := n0 (by omega); have := n1 (by omega); omega)
      subst hBf
      clear c0 c1 hGr hr n0 n1
      go_wp2_with fail
      go_ret
      exact ⟨rfl, hb⟩
end Go.Proofs.YtlnebbciefdpoaaDoor
