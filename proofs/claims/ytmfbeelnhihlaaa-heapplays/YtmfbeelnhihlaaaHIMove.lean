/- heap's rise and sink: their contracts. -/
import Derived.Test.YtmfbeelnhihlaaaHIRow
import Derived.Lib.QuietBelow
import Derived.Deep.DeepCutAuto
import Derived.Deep.CutBlock
import Derived.Test.YtmfbeelnhihlaaaHFirst
import Derived.BigQuiet
namespace Go.Proofs.Ytmfbeelnhihlaaa.HI
open Go.RowKit Go.Joins Go.Sort
set_option linter.unusedVariables false
set_option linter.unusedSimpArgs false
set_option maxRecDepth 100000
set_option maxHeartbeats 2000000 in
theorem rise_any (g b cap base : Nat) (sv : Value) (L : List El) (W : World) (hg : HpAt W g sv) (hL : RowE W base (.slice (some ⟨b, 0, none⟩) L.length cap) L) (hgb : g ≠ b) (hlen : L.length ≤ 1099511627776) (h0 : 0 < L.length) :
    Calls Try.prog 24 #[.pointer (some ⟨g, 0, none⟩), .slice (some ⟨b, 0, none⟩) L.length cap] W fun e w' => e = .returned (.tuple #[]) ∧ RowE w' base (.slice (some ⟨b, 0, none⟩) L.length cap) (riseF keyE L.length L (L.length - 1)) ∧ W.grownBy w' (some b) := by
  obtain ⟨n, hn⟩ : ∃ n, n = L.length := ⟨_, rfl⟩
  have HN : Hid (n = L.length) := hn
  obtain ⟨R, hR⟩ : ∃ R, R = riseF keyE L.length L (L.length - 1) := ⟨_, rfl⟩
  have HR : Hid (R = riseF keyE L.length L (L.length - 1)) := hR
  rw [← hR]
  clear hR
  rw [← hn] at hL hlen h0 ⊢
  clear hn
  go_enter Try.func24, Try.ntmps24
  go_wp2_with fail
  go_loopw [4] (fun v wr => ∃ (k f : Nat) (M : List El), k < n ∧ k < f ∧ v = .int .i64 (k : Nat) ∧ M.length = n ∧ riseF keyE f M k = R ∧ RowE wr base (.slice (some ⟨b, 0, none⟩) n cap) M ∧ W.grownBy wr (some b)) (fun v _ => (intOf v).toNat)
  case atStart => exact ⟨n - 1, n, L, by omega, by omega, by rw [show ((n - 1 : Nat) : Int) = (n : Int) - 1 by omega], HN.out.symm, by rw [HR.out, ← HN.out], hL, grownBy_refl _ _⟩
  case round =>
    obtain ⟨k, f, M, hkn, hkf, rfl, hM, hRf, hrow, hgr⟩ := hrel
    have hgw := hg.grown hgr hgb
    cases f with
    | zero => omega
    | succ f =>
    unfold riseF at hRf
    by_cases hk0 : k = 0
    · rw [if_pos hk0] at hRf
      subst hk0
      have hd : decide ((0 : Int) < 0) = false := rfl
      have HRf : Hid (M = R) := hRf
      clear hRf
      go_wp2_with fail
      go_end0
      exact ⟨rfl, by rw [← HRf.out]; exact hrow, hgr⟩
    · rw [if_neg hk0] at hRf
      obtain ⟨p, hp⟩ : ∃ p, p = (k - 1) / 2 := ⟨_, rfl⟩
      rw [← hp] at hRf
      have hpk : p < k := by omega
      have hpn : p < n := by omega
      have hq : Int.tdiv ((k : Int) - 1) 2 = ((p : Nat) : Int) := by
        rw [show (k : Int) - 1 = ((k - 1 : Nat) : Int) by omega, hp]
        exact (Int.ofNat_tdiv _ _).symm
      have hd : decide ((0 : Int) < (k : Int)) = true := decide_eq_true (by omega)
      have HP : Hid (p = (k - 1) / 2) := hp
      clear hp
      obtain ⟨x, hx⟩ : ∃ x, M[k]? = some x := ⟨_, List.getElem?_eq_getElem (by omega)⟩
      obtain ⟨y, hy⟩ : ∃ y, M[p]? = some y := ⟨_, List.getElem?_eq_getElem (by omega)⟩
      have hX := hrow.at' hx
      have hY := hrow.at' hy
      have HX : Hid (M[k]? = some x) := hx
      have HY : Hid (M[p]? = some y) := hy
      have HM : Hid (M.length = n) := hM
      have HRf : Hid ((if lt2 keyE M k p then riseF keyE f (swp M k p) p else M) = R) := hRf
      clear hx hy hRf hM
      have HC := fun d os => before_any g sv x y (grow (redrawn wr d) os) (hgw.below (below_regrown wr d os))
      have HX2 : Hid (ElAt wr b (k * 1) x) := hX
      have HY2 : Hid (ElAt wr b (p * 1) y) := hY
      rw [Nat.mul_one] at hX hY
      have k0 := cell_regrown hX
      have l0 := cell_regrown hY
      have i0 : 0 ≤ (k : Int) ∧ (k : Int) < (n : Int) := by omega
      have i1 : 0 ≤ (p : Int) ∧ (p : Int) < (n : Int) := by omega
      clear hX hY
      unfold valE at HC
      obtain ⟨t, ht⟩ : ∃ t, t = decide (keyE x < keyE y) := ⟨_, rfl⟩
      rw [← ht] at HC
      have HT : Hid (t = decide (keyE x < keyE y)) := ht
      clear ht
      go_wp2_with fail
      refine wp_region_quiet_below (by kernel_rfl) (by kernel_rfl) ?_
      repeat (go_big_quiet_step ((go_at_call 31; exact Calls.regrown_of (HC _ _))))
      refine wpQuiet_nil ?_
      intro W5 hw'
      have hb5 : Below wr.heap.size wr W5 := by
        obtain ⟨⟨dq, osq⟩, rfl⟩ := hw'
        exact below_regrown _ _ _
      have hX := HX2.out.below hb5
      have hY := HY2.out.below hb5
      have hrow5 := hrow.below hb5
      have hgr5 := grownBy_below hgr hb5
      have fz := hrow5.free
      clear hw' HC k0  l0 hb5 HX2 HY2 hgw hrow hgr
      cases t with
      | false =>
        go_wp2_with fail
        refine bodyPost_ret (results_none rfl _ _ _) rfl ?_
        refine ⟨rfl, ?_, hgr5⟩
        have h1 : lt2 keyE M k p = false := by unfold lt2; rw [HX.out, HY.out]; exact HT.out.symm
        have h2 := HRf.out
        rw [h1] at h2
        simp only [Bool.false_eq_true, if_false] at h2
        rw [← h2]
        exact hrow5
      | true =>
        have HW5 : Hid (ElAt W5 b (k * 1) x ∧ ElAt W5 b (p * 1) y) := ⟨hX, hY⟩
        have h1 : lt2 keyE M k p = true := by unfold lt2; rw [HX.out, HY.out]; exact HT.out.symm
        have h2 := HRf.out
        rw [h1] at h2
        simp only [if_true] at h2
        have HRg : Hid (riseF keyE f (swp M k p) p = R) := h2
        clear h2 h1 HRf HT
        obtain ⟨h5, h6⟩ := hrow5.put (i := k) (by rw [HM.out]; exact hkn) y
        obtain ⟨h7, h8⟩ := h5.put (i := p) (by rw [List.length_set, HM.out]; exact hpn) x
        have h9 := grownBy_trans hgr5 (grownBy_trans h6 h8)
        rw [← swp_eq HX.out HY.out] at h7
        clear h5 h6 h8 hgr5 hrow5
        rw [Nat.mul_one] at hX hY
        rw [Nat.mul_one, Nat.mul_one] at h7 h9
        unfold ElAt at hX hY
        unfold putE at h7 h9
        have hkp : k ≠ p := by omega
        go_wp2_with fail
        refine wp_region_any (by kernel_rfl) ?_
        show wpAny _ _ _ _ 16 _ _ _
        refine wpAny_move (i := 0) (.tmp 1) rfl rfl rfl (by kernel_rfl) (by kernel_rfl) (by kernel_rfl) (fun _ _ _ _ h => h) ?_
        refine wpAny_move (i := 1) (.tmp 4) rfl rfl rfl (by kernel_rfl) (by kernel_rfl) (by kernel_rfl) (fun _ _ _ _ h => h) ?_
        refine wpAny_move (i := 2) (.tmp 1) rfl rfl rfl (by kernel_rfl) (by kernel_rfl) (by kernel_rfl) (fun _ _ _ _ h => h) ?_
        refine wpAny_move (i := 3) (.tmp 5) rfl rfl rfl (by kernel_rfl) (by kernel_rfl) (by kernel_rfl) (fun _ _ _ _ h => h) ?_
        refine wpAny_move (i := 4) (.tmp 1) rfl rfl rfl (by kernel_rfl) (by kernel_rfl) (by kernel_rfl) (fun _ _ _ _ h => h) ?_
        refine wpAny_move (i := 5) (.tmp 5) rfl rfl rfl (by kernel_rfl) (by kernel_rfl) (by kernel_rfl) (fun _ _ _ _ h => h) ?_
        go_simp
        refine wpAny_take (i := 6) (v := .pointer (some ⟨b, p, none⟩)) rfl (by kernel_rfl) (by kernel_rfl) (by kernel_rfl) (fun _ _ _ h => h) (.inl ⟨by kernel_rfl, fun w' => by go_simp⟩) ?_
        refine wpAny_move (i := 8) (.tmp 1) rfl rfl rfl (by kernel_rfl) (by kernel_rfl) (by kernel_rfl) (fun _ _ _ _ h => h) ?_
        refine wpAny_move (i := 9) (.tmp 4) rfl rfl rfl (by kernel_rfl) (by kernel_rfl) (by kernel_rfl) (fun _ _ _ _ h => h) ?_
        go_simp
        refine wpAny_take (i := 10) (v := .pointer (some ⟨b, k, none⟩)) rfl (by kernel_rfl) (by kernel_rfl) (by kernel_rfl) (fun _ _ _ h => h) (.inl ⟨by kernel_rfl, fun w' => by go_simp⟩) ?_
        go_simp
        refine wpAny_load (i := 7) (j := 11) (u := .int .i64 x) (S := fun w' => w'.cell? ⟨b, k, none⟩ = some (.int .i64 x)) _ [12, 13, 14, 15] rfl rfl (by kernel_rfl) (by kernel_rfl) (by omega) (by kernel_rfl) (by kernel_rfl) (by kernel_rfl) (by kernel_rfl) (by simp) (fun _ _ _ _ h => h) (.inl ⟨by kernel_rfl, fun w' hw' => by go_simp⟩) hX rfl ?_
        intro K hK
        simp only [pick, List.take_succ_cons, List.take_zero, List.drop_succ_cons, List.drop_zero, List.nil_append, List.cons_append] at hK
        go_simp
        refine hK _ _ hX ?_
        clear hK K
        go_wp2_with fail
        exact ⟨⟨p, f, swp M k p, hpn, by omega, rfl, by rw [swp_length]; exact HM.out, HRg.out, h7, ⟨h9.os, h9.tape, h9.output, h9.size, h9.block⟩⟩, by simp only [intOf]; omega⟩
set_option maxHeartbeats 4000000 in
theorem sink_any (g b cap base : Nat) (sv : Value) (L : List El) (a0 : Nat) (W : World) (hg : HpAt W g sv) (hL : RowE W base (.slice (some ⟨b, 0, none⟩) L.length cap) L) (hgb : g ≠ b) (hlen : L.length ≤ 1099511627776) (ha0 : a0 ≤ L.length) :
    Calls Try.prog 25 #[.pointer (some ⟨g, 0, none⟩), .slice (some ⟨b, 0, none⟩) L.length cap, .int .i64 (a0 : Nat)] W fun e w' => e = .returned (.tuple #[]) ∧ RowE w' base (.slice (some ⟨b, 0, none⟩) L.length cap) (sinkF keyE L.length L a0) ∧ W.grownBy w' (some b) := by
  obtain ⟨n, hn⟩ : ∃ n, n = L.length := ⟨_, rfl⟩
  have HN : Hid (n = L.length) := hn
  obtain ⟨R, hR⟩ : ∃ R, R = sinkF keyE L.length L a0 := ⟨_, rfl⟩
  have HR : Hid (R = sinkF keyE L.length L a0) := hR
  rw [← hR]
  clear hR
  rw [← hn] at hL hlen ha0 ⊢
  clear hn
  go_enter Try.func25, Try.ntmps25
  go_wp2_with fail
  go_loopw [2] (fun v wr => ∃ (k f : Nat) (M : List El), k ≤ n ∧ n - k ≤ f ∧ v = .int .i64 (k : Nat) ∧ M.length = n ∧ sinkF keyE f M k = R ∧ RowE wr base (.slice (some ⟨b, 0, none⟩) n cap) M ∧ W.grownBy wr (some b)) (fun v _ => n - (intOf v).toNat)
  case atStart => exact ⟨a0, n, L, ha0, by omega, rfl, HN.out.symm, by rw [HR.out, ← HN.out], hL, grownBy_refl _ _⟩
  case round =>
    obtain ⟨k, f, M, hkn, hkf, rfl, hM, hRf, hrow, hgr⟩ := hrel
    have hgw := hg.grown hgr hgb
    have HM : Hid (M.length = n) := hM
    have HRf : Hid (sinkF keyE f M k = R) := hRf
    clear hRf hM
    obtain ⟨V, hV⟩ : ∃ V, V = wr := ⟨_, rfl⟩
    subst hV
    go_upto_block 2 with fail
    go_cut [6] (fun u wx => u = .int .i64 ((leastOf keyE M k : Nat) : Int) ∧ Below V.heap.size V wx)
    case first =>
      go_wp2_with fail
      go_loopw [6, 7] (fun u v wx => ∃ j : Nat, j ≤ 2 ∧ u = .int .i64 ((stg keyE M k j : Nat) : Int) ∧ v = .int .i64 ((2 * k + 1 + j : Nat) : Int) ∧ Below V.heap.size V wx) (fun _ v _ => 2 * k + 3 - (intOf v).toNat)
      case atStart => exact ⟨0, by omega, rfl, by simp, Below.refl _ _⟩
      case round =>
        obtain ⟨j, hj, rfl, rfl, hbx⟩ := hrel
        have hgw := hgw.below hbx
        have hrow := hrow.below hbx
        obtain ⟨c, hc⟩ : ∃ c, c = 2 * k + 1 + j := ⟨_, rfl⟩
        have HCc : Hid (c = 2 * k + 1 + j) := hc
        rw [← hc]
        by_cases hgo : j < 2 ∧ c < n
        · obtain ⟨hj2, hcn⟩ := hgo
          have hst := stg_step keyE (L := M) (a := k) hj2
          have hsl := stg_lt keyE (L := M) (a := k) (j := j) (by rw [HM.out]; omega) hj
          rw [← hc] at hst
          rw [HM.out] at hsl
          have d1 : decide ((c : Int) ≤ 2 * (k : Int) + 2) = true := decide_eq_true (by omega)
          have d2 : decide ((c : Int) < (n : Int)) = true := decide_eq_true (by omega)
          obtain ⟨l, hl⟩ : ∃ l, l = stg keyE M k j := ⟨_, rfl⟩
          rw [← hl] at hsl hst ⊢
          have HST : Hid (stg keyE M k (j + 1) = if lt2 keyE M c l then c else l) := hst
          clear hl hc hst
          obtain ⟨x, hx⟩ : ∃ x, M[c]? = some x := ⟨_, List.getElem?_eq_getElem (by rw [HM.out]; exact hcn)⟩
          obtain ⟨y, hy⟩ : ∃ y, M[l]? = some y := ⟨_, List.getElem?_eq_getElem (by rw [HM.out]; exact hsl)⟩
          have hX := hrow.at' hx
          have hY := hrow.at' hy
          have HX : Hid (M[c]? = some x) := hx
          have HY : Hid (M[l]? = some y) := hy
          clear hx hy
          have HC := fun d os => before_any g sv x y (grow (redrawn wr d) os) (hgw.below (below_regrown wr d os))
          rw [Nat.mul_one] at hX hY
          have k0 := cell_regrown hX
          have l0 := cell_regrown hY
          have i0 : 0 ≤ (c : Int) ∧ (c : Int) < (n : Int) := by omega
          have i1 : 0 ≤ (l : Int) ∧ (l : Int) < (n : Int) := by omega
          clear hX hY
          unfold valE at HC
          obtain ⟨t, ht⟩ : ∃ t, t = decide (keyE x < keyE y) := ⟨_, rfl⟩
          rw [← ht] at HC
          have HT : Hid (t = lt2 keyE M c l) := by unfold lt2; rw [HX.out, HY.out]; exact ht
          clear ht
          go_wp2_with fail
          refine wp_region_quiet_below (by kernel_rfl) (by kernel_rfl) ?_
          repeat (go_big_quiet_step ((go_at_call 31; exact Calls.regrown_of (HC _ _))))
          refine wpQuiet_nil ?_
          intro W5 hw'
          have hb5 : Below wr.heap.size wr W5 := by
            obtain ⟨⟨dq, osq⟩, rfl⟩ := hw'
            exact below_regrown _ _ _
          have hb6 := hbx.trans (hb5.mono hbx.size)
          clear hw' HC k0  l0 hb5 hgw hrow hbx
          cases t with
          | false =>
            go_wp2_with fail
            exact ⟨⟨j + 1, by omega, by rw [HST.out, ← HT.out]; rfl, by rw [show 2 * k + 1 + (j + 1) = c + 1 by rw [HCc.out]; omega]; rfl, hb6⟩, by have := HCc.out; simp only [intOf]; omega⟩
          | true =>
            go_wp2_with fail
            exact ⟨⟨j + 1, by omega, by rw [HST.out, ← HT.out]; rfl, by rw [show 2 * k + 1 + (j + 1) = c + 1 by rw [HCc.out]; omega]; rfl, hb6⟩, by have := HCc.out; simp only [intOf]; omega⟩
        · have hst := stg_stop keyE (L := M) (a := k) hj (by rw [HM.out, ← hc]; omega)
          rw [hst]
          clear hst
          obtain ⟨m, hm⟩ : ∃ m, m = leastOf keyE M k := ⟨_, rfl⟩
          rw [← hm]
          have HMm : Hid (m = leastOf keyE M k) := hm
          clear hm
          by_cases hj2 : j < 2
          · have d1 : decide ((c : Int) ≤ 2 * (k : Int) + 2) = true := decide_eq_true (by omega)
            have d2 : decide (c < n) = false := decide_eq_false (by omega)
            clear hc hgo hj2
            go_wp2_with fail
            go_meet
            exact ⟨by rw [HMm.out], hbx⟩
          · have d1 : decide ((c : Int) ≤ 2 * (k : Int) + 2) = false := decide_eq_false (by omega)
            clear hc hgo hj2
            go_wp2_with fail
            go_meet
            exact ⟨by rw [HMm.out], hbx⟩
    case rest =>
      obtain ⟨rfl, hbx⟩ := hcut
      obtain ⟨W5, hW5⟩ : ∃ W5, W5 = wc := ⟨_, rfl⟩
      subst hW5
      have hrow5 := hrow.below hbx
      have hgr5 := grownBy_below hgr hbx
      have fz := hrow5.free
      have HS : Hid (∀ f, n - k ≤ f → sinkF keyE f M k = R → leastOf keyE M k = k → M = R) := by
        intro f h1 h2 h3
        cases f with
        | zero => exact h2
        | succ f => unfold sinkF at h2; rw [if_pos h3] at h2; exact h2
      by_cases hm : leastOf keyE M k = k
      · rw [hm]
        have HE : Hid (M = R) := HS.out f hkf HRf.out hm
        clear hm
        go_wp2_with fail
        refine bodyPost_ret (results_none rfl _ _ _) rfl ?_
        refine ⟨rfl, ?_, hgr5⟩
        rw [← HE.out]
        exact hrow5
      · obtain ⟨g1, g2, g3, -⟩ := leastOf_other keyE hm
        obtain ⟨f', hf'⟩ : ∃ f', f = f' + 1 := ⟨f - 1, by rw [HM.out] at g2; omega⟩
        subst hf'
        have h2 := HRf.out
        unfold sinkF at h2
        rw [if_neg hm] at h2
        obtain ⟨p, hp⟩ : ∃ p, p = leastOf keyE M k := ⟨_, rfl⟩
        rw [← hp] at h2 g1 g2 hm ⊢
        rw [HM.out] at g2
        have hkp : k ≠ p := fun e => hm e.symm
        have hkl : k < n := by omega
        have hpk : k < p := by omega
        have hq : ((p : Int) == (k : Int)) = false := by simp; omega
        have HRg : Hid (sinkF keyE f' (swp M k p) p = R) := h2
        clear h2 hp g1 g3 HRf HS hm hbx hgr hrow hgw
        obtain ⟨x, hx⟩ : ∃ x, M[k]? = some x := ⟨_, List.getElem?_eq_getElem (by rw [HM.out]; exact hkl)⟩
        obtain ⟨y, hy⟩ : ∃ y, M[p]? = some y := ⟨_, List.getElem?_eq_getElem (by rw [HM.out]; exact g2)⟩
        have hX := hrow5.at' hx
        have hY := hrow5.at' hy
        obtain ⟨h5, h6⟩ := hrow5.put (i := k) (by rw [HM.out]; exact hkl) y
        obtain ⟨h7, h8⟩ := h5.put (i := p) (by rw [List.length_set, HM.out]; exact g2) x
        have h9 := grownBy_trans hgr5 (grownBy_trans h6 h8)
        rw [← swp_eq hx hy] at h7
        clear h5 h6 h8 hgr5 hrow5 hx hy
        have i0 : 0 ≤ (k : Int) ∧ (k : Int) < (n : Int) := by omega
        have i1 : 0 ≤ (p : Int) ∧ (p : Int) < (n : Int) := by omega
        rw [Nat.mul_one] at hX hY
        rw [Nat.mul_one, Nat.mul_one] at h7 h9
        unfold ElAt at hX hY
        unfold putE at h7 h9
        go_wp2_with fail
        refine wp_region_any (by kernel_rfl) ?_
        show wpAny _ _ _ _ 16 _ _ _
        refine wpAny_move (i := 0) (.tmp 1) rfl rfl rfl (by kernel_rfl) (by kernel_rfl) (by kernel_rfl) (fun _ _ _ _ h => h) ?_
        refine wpAny_move (i := 1) (.tmp 2) rfl rfl rfl (by kernel_rfl) (by kernel_rfl) (by kernel_rfl) (fun _ _ _ _ h => h) ?_
        refine wpAny_move (i := 2) (.tmp 1) rfl rfl rfl (by kernel_rfl) (by kernel_rfl) (by kernel_rfl) (fun _ _ _ _ h => h) ?_
        refine wpAny_move (i := 3) (.tmp 6) rfl rfl rfl (by kernel_rfl) (by kernel_rfl) (by kernel_rfl) (fun _ _ _ _ h => h) ?_
        refine wpAny_move (i := 4) (.tmp 1) rfl rfl rfl (by kernel_rfl) (by kernel_rfl) (by kernel_rfl) (fun _ _ _ _ h => h) ?_
        refine wpAny_move (i := 5) (.tmp 6) rfl rfl rfl (by kernel_rfl) (by kernel_rfl) (by kernel_rfl) (fun _ _ _ _ h => h) ?_
        go_simp
        refine wpAny_take (i := 6) (v := .pointer (some ⟨b, p, none⟩)) rfl (by kernel_rfl) (by kernel_rfl) (by kernel_rfl) (fun _ _ _ h => h) (.inl ⟨by kernel_rfl, fun w' => by go_simp⟩) ?_
        refine wpAny_move (i := 8) (.tmp 1) rfl rfl rfl (by kernel_rfl) (by kernel_rfl) (by kernel_rfl) (fun _ _ _ _ h => h) ?_
        refine wpAny_move (i := 9) (.tmp 2) rfl rfl rfl (by kernel_rfl) (by kernel_rfl) (by kernel_rfl) (fun _ _ _ _ h => h) ?_
        go_simp
        refine wpAny_take (i := 10) (v := .pointer (some ⟨b, k, none⟩)) rfl (by kernel_rfl) (by kernel_rfl) (by kernel_rfl) (fun _ _ _ h => h) (.inl ⟨by kernel_rfl, fun w' => by go_simp⟩) ?_
        go_simp
        refine wpAny_load (i := 7) (j := 11) (u := .int .i64 x) (S := fun w' => w'.cell? ⟨b, k, none⟩ = some (.int .i64 x)) _ [12, 13, 14, 15] rfl rfl (by kernel_rfl) (by kernel_rfl) (by omega) (by kernel_rfl) (by kernel_rfl) (by kernel_rfl) (by kernel_rfl) (by simp) (fun _ _ _ _ h => h) (.inl ⟨by kernel_rfl, fun w' hw' => by go_simp⟩) hX rfl ?_
        intro K hK
        simp only [pick, List.take_succ_cons, List.take_zero, List.drop_succ_cons, List.drop_zero, List.nil_append, List.cons_append] at hK
        go_simp
        refine hK _ _ hX ?_
        clear hK K
        go_wp2_with fail
        exact ⟨⟨p, f', swp M k p, by omega, by omega, rfl, by rw [swp_length]; exact HM.out, HRg.out, h7, ⟨h9.os, h9.tape, h9.output, h9.size, h9.block⟩⟩, by simp only [intOf]; omega⟩
end Go.Proofs.Ytmfbeelnhihlaaa.HI
