import Derived.Test.YtjbdhakogbolkaaDoorJ10
import Derived.Lib.QuietBelow
import Derived.Deep.DeepCutAuto
import Derived.Deep.CutBlock
import Derived.BigQuiet
import Derived.Test.YtjbdhakogbolkaaDoorRows
import Derived.Test.YtjbdhakogbolkaaDoorJ2
import Derived.WalkKit
import Derived.Below
import Derived.Deep.AppendSrc
import Derived.Laws.OwnMore
import Derived.Maps.AppendAt
import Derived.Lib.SmallJoins
import Derived.Test.YtjbdhakogbolkaaDoorJ7
import Derived.OrdersHeld
section
/- heap's rise and sink: their contracts. -/
namespace Go.Proofs.YtjbdhakogbolkaaDoor.HQ
open Go.RowKit Go.Joins Go.Sort
set_option linter.unusedVariables false
set_option linter.unusedSimpArgs false
set_option maxRecDepth 100000
theorem RowE.drew {w : World} {base : Nat} {v : Value} {L : List El} (h : RowE w base v L) : RowE w.drew base v L := h.below ((Below.refl _ _).drew)
theorem grownBy_drew {w w' : World} {row : Option Nat} (h : w.grownBy w' row) : w.grownBy w'.drew row := grownBy_below h ((Below.refl _ _).drew)
set_option maxHeartbeats 2000000 in
theorem rise_any (g b cap base : Nat) (sv : Value) (L : List El) (W : World) (hg : HpAt W g sv) (hL : RowE W base (.slice (some ⟨b, 0, none⟩) L.length cap) L) (hgb : g ≠ b) (hlen : L.length ≤ 1099511627776) (h0 : 0 < L.length) :
    Calls Tryd.prog 97 #[.pointer (some ⟨g, 0, none⟩), .slice (some ⟨b, 0, none⟩) L.length cap] W fun e w' => e = .returned (.tuple #[]) ∧ RowE w' base (.slice (some ⟨b, 0, none⟩) L.length cap) (riseF keyE L.length L (L.length - 1)) ∧ W.grownBy w' (some b) := by
  obtain ⟨n, hn⟩ : ∃ n, n = L.length := ⟨_, rfl⟩
  have HN : Hid (n = L.length) := hn
  obtain ⟨R, hR⟩ : ∃ R, R = riseF keyE L.length L (L.length - 1) := ⟨_, rfl⟩
  have HR : Hid (R = riseF keyE L.length L (L.length - 1)) := hR
  rw [← hR]
  clear hR
  rw [← hn] at hL hlen h0 ⊢
  clear hn
  go_enter Tryd.func97, Tryd.ntmps97
  go_wp2_with fail
  go_loopw [4] (fun v wr => ∃ (k f : Nat) (M : List El), k < n ∧ k < f ∧ v = .int .i64 (k : Nat) ∧ M.length = n ∧ riseF keyE f M k = R ∧ RowE wr base (.slice (some ⟨b, 0, none⟩) n cap) M ∧ W.grownBy wr (some b)) (fun v _ => (intOf v).toNat)
  case atStart => exact ⟨n - 1, n, L, by omega, by omega, by rw [show ((n - 1 : Nat) : Int) = (n : Int) - 1 by omega], HN.out.symm, by rw [HR.out, ← HN.out], hL, grownBy_refl _ _⟩
  case round =>
    obtain ⟨k, f, M, hkn, hkf, rfl, hM, hRf, hrow, hgr⟩ := hrel
    have hgw := hg.grown hgr hgb
    cases f with
    | zero => omega
    | succ f =>
    unfold riseF at hRf
    by_cases hk0 : k = 0
    · rw [if_pos hk0] at hRf
      subst hk0
      have hd : decide ((0 : Int) < 0) = false := rfl
      have HRf : Hid (M = R) := hRf
      clear hRf
      go_wp2_with fail
      go_end0
      exact ⟨rfl, by rw [← HRf.out]; exact hrow, hgr⟩
    · rw [if_neg hk0] at hRf
      obtain ⟨p, hp⟩ : ∃ p, p = (k - 1) / 2 := ⟨_, rfl⟩
      rw [← hp] at hRf
      have hpk : p < k := by omega
      have hpn : p < n := by omega
      have hq : Int.tdiv ((k : Int) - 1) 2 = ((p : Nat) : Int) := by
        rw [show (k : Int) - 1 = ((k - 1 : Nat) : Int) by omega, hp]
        exact (Int.ofNat_tdiv _ _).symm
      have hd : decide ((0 : Int) < (k : Int)) = true := decide_eq_true (by omega)
      have HP : Hid (p = (k - 1) / 2) := hp
      clear hp
      obtain ⟨x, hx⟩ : ∃ x, M[k]? = some x := ⟨_, List.getElem?_eq_getElem (by omega)⟩
      obtain ⟨y, hy⟩ : ∃ y, M[p]? = some y := ⟨_, List.getElem?_eq_getElem (by omega)⟩
      have hX := hrow.at' hx
      have hY := hrow.at' hy
      have HX : Hid (M[k]? = some x) := hx
      have HY : Hid (M[p]? = some y) := hy
      have HM : Hid (M.length = n) := hM
      have HRf : Hid ((if lt2 keyE M k p then riseF keyE f (swp M k p) p else M) = R) := hRf
      clear hx hy hRf hM
      have HC := fun d os => before_any g sv x y (grow (redrawn wr d) os) (hgw.below (below_regrown wr d os))
      have HX2 : Hid (ElAt wr b (k * 4) x) := hX
      have HY2 : Hid (ElAt wr b (p * 4) y) := hY
      have k0 := cell_regrown hX.1
      have k1 := cell_regrown hX.2.1
      have k2 := cell_regrown hX.2.2.1
      have k3 := cell_regrown hX.2.2.2
      have l0 := cell_regrown hY.1
      have l1 := cell_regrown hY.2.1
      have l2 := cell_regrown hY.2.2.1
      have l3 := cell_regrown hY.2.2.2
      have i0 : 0 ≤ (k : Int) ∧ (k : Int) < (n : Int) := by omega
      have i1 : 0 ≤ (p : Int) ∧ (p : Int) < (n : Int) := by omega
      clear hX hY
      unfold valE at HC
      obtain ⟨t, ht⟩ : ∃ t, t = decide (keyE x < keyE y) := ⟨_, rfl⟩
      rw [← ht] at HC
      have HT : Hid (t = decide (keyE x < keyE y)) := ht
      clear ht
      go_wp2_with fail
      refine wp_region_quiet_below (by kernel_rfl) (by kernel_rfl) ?_
      repeat (go_big_quiet_step ((go_at_call 91; exact Calls.regrown_of (HC _ _))))
      refine wpQuiet_nil ?_
      intro W5 hw'
      have hb5 : Below wr.heap.size wr W5 := by
        obtain ⟨⟨dq, osq⟩, rfl⟩ := hw'
        exact below_regrown _ _ _
      have hX := HX2.out.below hb5
      have hY := HY2.out.below hb5
      have hrow5 := hrow.below hb5
      have hgr5 := grownBy_below hgr hb5
      have fz := hrow5.free
      clear hw' HC k0 k1 k2 k3 l0 l1 l2 l3 hb5 HX2 HY2 hgw hrow hgr
      cases t with
      | false =>
        go_wp2_with fail
        refine bodyPost_ret (results_none rfl _ _ _) rfl ?_
        refine ⟨rfl, ?_, hgr5⟩
        have h1 : lt2 keyE M k p = false := by unfold lt2; rw [HX.out, HY.out]; exact HT.out.symm
        have h2 := HRf.out
        rw [h1] at h2
        simp only [Bool.false_eq_true, if_false] at h2
        rw [← h2]
        exact hrow5
      | true =>
        have HW5 : Hid (ElAt W5 b (k * 4) x ∧ ElAt W5 b (p * 4) y) := ⟨hX, hY⟩
        have h1 : lt2 keyE M k p = true := by unfold lt2; rw [HX.out, HY.out]; exact HT.out.symm
        have h2 := HRf.out
        rw [h1] at h2
        simp only [if_true] at h2
        have HRg : Hid (riseF keyE f (swp M k p) p = R) := h2
        clear h2 h1 HRf HT
        obtain ⟨h5, h6⟩ := hrow5.put (i := k) (by rw [HM.out]; exact hkn) y
        obtain ⟨h7, h8⟩ := h5.put (i := p) (by rw [List.length_set, HM.out]; exact hpn) x
        have h9 := grownBy_trans hgr5 (grownBy_trans h6 h8)
        rw [← swp_eq HX.out HY.out] at h7
        clear h5 h6 h8 hgr5 hrow5
        obtain ⟨x1, x2, x3, x4, hx5⟩ := x
        obtain ⟨y1, y2, y3, y4, hy5⟩ := y
        obtain ⟨hX1, hX2, hX3, hX4⟩ := hX
        obtain ⟨hY1, hY2, hY3, hY4⟩ := hY
        unfold putE at h7 h9
        dsimp only at hX1 hX2 hX3 hX4 hY1 hY2 hY3 hY4 h7 h9
        have hkp : k ≠ p := by omega
        go_wp2_with fail
        refine wp_region_any (by kernel_rfl) ?_
        show wpAny _ _ _ _ 16 _ _ _
        refine wpAny_move (i := 0) (.tmp 1) rfl rfl rfl (by kernel_rfl) (by kernel_rfl) (by kernel_rfl) (fun _ _ _ _ h => h) ?_
        refine wpAny_move (i := 1) (.tmp 4) rfl rfl rfl (by kernel_rfl) (by kernel_rfl) (by kernel_rfl) (fun _ _ _ _ h => h) ?_
        refine wpAny_move (i := 2) (.tmp 1) rfl rfl rfl (by kernel_rfl) (by kernel_rfl) (by kernel_rfl) (fun _ _ _ _ h => h) ?_
        refine wpAny_move (i := 3) (.tmp 5) rfl rfl rfl (by kernel_rfl) (by kernel_rfl) (by kernel_rfl) (fun _ _ _ _ h => h) ?_
        refine wpAny_move (i := 4) (.tmp 1) rfl rfl rfl (by kernel_rfl) (by kernel_rfl) (by kernel_rfl) (fun _ _ _ _ h => h) ?_
        refine wpAny_move (i := 5) (.tmp 5) rfl rfl rfl (by kernel_rfl) (by kernel_rfl) (by kernel_rfl) (fun _ _ _ _ h => h) ?_
        go_simp
        refine wpAny_take (i := 6) (v := .pointer (some ⟨b, p * 4, none⟩)) rfl (by kernel_rfl) (by kernel_rfl) (by kernel_rfl) (fun _ _ _ h => h) (.inl ⟨by kernel_rfl, fun w' => by go_simp⟩) ?_
        refine wpAny_move (i := 8) (.tmp 1) rfl rfl rfl (by kernel_rfl) (by kernel_rfl) (by kernel_rfl) (fun _ _ _ _ h => h) ?_
        refine wpAny_move (i := 9) (.tmp 4) rfl rfl rfl (by kernel_rfl) (by kernel_rfl) (by kernel_rfl) (fun _ _ _ _ h => h) ?_
        go_simp
        refine wpAny_take (i := 10) (v := .pointer (some ⟨b, k * 4, none⟩)) rfl (by kernel_rfl) (by kernel_rfl) (by kernel_rfl) (fun _ _ _ h => h) (.inl ⟨by kernel_rfl, fun w' => by go_simp⟩) ?_
        go_simp
        refine wpAny_load (i := 7) (j := 11) (u := .agg #[.int .i64 x1, .int .i64 x2, .int .i64 x3, .int .i64 x4]) (S := fun w' => w'.cell? ⟨b, k * 4, none⟩ = some (.int .i64 x1) ∧ w'.cell? ⟨b, k * 4 + 1, none⟩ = some (.int .i64 x2) ∧ w'.cell? ⟨b, k * 4 + 2, none⟩ = some (.int .i64 x3) ∧ w'.cell? ⟨b, k * 4 + 3, none⟩ = some (.int .i64 x4)) _ [12, 13, 14, 15] rfl rfl (by kernel_rfl) (by kernel_rfl) (by omega) (by kernel_rfl) (by kernel_rfl) (by kernel_rfl) (by kernel_rfl) (by simp) (fun _ _ _ _ h => h) (.inl ⟨by kernel_rfl, fun w' hw' => by obtain ⟨q1, q2, q3, q4⟩ := hw'; go_simp⟩) ⟨hX1, hX2, hX3, hX4⟩ rfl ?_
        intro K hK
        simp only [pick, List.take_succ_cons, List.take_zero, List.drop_succ_cons, List.drop_zero, List.nil_append, List.cons_append] at hK
        go_simp
        refine hK _ _ ⟨hX1, hX2, hX3, hX4⟩ ?_
        clear hK K
        go_wp2_with fail
        exact ⟨⟨p, f, swp M k p, hpn, by omega, rfl, by rw [swp_length]; exact HM.out, HRg.out, h7.drew, grownBy_drew h9⟩, by simp only [intOf]; omega⟩
set_option maxHeartbeats 4000000 in
theorem sink_any (g b cap base : Nat) (sv : Value) (L : List El) (a0 : Nat) (W : World) (hg : HpAt W g sv) (hL : RowE W base (.slice (some ⟨b, 0, none⟩) L.length cap) L) (hgb : g ≠ b) (hlen : L.length ≤ 1099511627776) (ha0 : a0 ≤ L.length) :
    Calls Tryd.prog 74 #[.pointer (some ⟨g, 0, none⟩), .slice (some ⟨b, 0, none⟩) L.length cap, .int .i64 (a0 : Nat)] W fun e w' => e = .returned (.tuple #[]) ∧ RowE w' base (.slice (some ⟨b, 0, none⟩) L.length cap) (sinkF keyE L.length L a0) ∧ W.grownBy w' (some b) := by
  obtain ⟨n, hn⟩ : ∃ n, n = L.length := ⟨_, rfl⟩
  have HN : Hid (n = L.length) := hn
  obtain ⟨R, hR⟩ : ∃ R, R = sinkF keyE L.length L a0 := ⟨_, rfl⟩
  have HR : Hid (R = sinkF keyE L.length L a0) := hR
  rw [← hR]
  clear hR
  rw [← hn] at hL hlen ha0 ⊢
  clear hn
  go_enter Tryd.func74, Tryd.ntmps74
  go_wp2_with fail
  go_loopw [2] (fun v wr => ∃ (k f : Nat) (M : List El), k ≤ n ∧ n - k ≤ f ∧ v = .int .i64 (k : Nat) ∧ M.length = n ∧ sinkF keyE f M k = R ∧ RowE wr base (.slice (some ⟨b, 0, none⟩) n cap) M ∧ W.grownBy wr (some b)) (fun v _ => n - (intOf v).toNat)
  case atStart => exact ⟨a0, n, L, ha0, by omega, rfl, HN.out.symm, by rw [HR.out, ← HN.out], hL, grownBy_refl _ _⟩
  case round =>
    obtain ⟨k, f, M, hkn, hkf, rfl, hM, hRf, hrow, hgr⟩ := hrel
    have hgw := hg.grown hgr hgb
    have HM : Hid (M.length = n) := hM
    have HRf : Hid (sinkF keyE f M k = R) := hRf
    clear hRf hM
    obtain ⟨V, hV⟩ : ∃ V, V = wr := ⟨_, rfl⟩
    subst hV
    go_upto_block 2 with fail
    go_cut [6] (fun u wx => u = .int .i64 ((leastOf keyE M k : Nat) : Int) ∧ Below V.heap.size V wx)
    case first =>
      go_wp2_with fail
      go_loopw [6, 7] (fun u v wx => ∃ j : Nat, j ≤ 2 ∧ u = .int .i64 ((stg keyE M k j : Nat) : Int) ∧ v = .int .i64 ((2 * k + 1 + j : Nat) : Int) ∧ Below V.heap.size V wx) (fun _ v _ => 2 * k + 3 - (intOf v).toNat)
      case atStart => exact ⟨0, by omega, rfl, by simp, Below.refl _ _⟩
      case round =>
        obtain ⟨j, hj, rfl, rfl, hbx⟩ := hrel
        have hgw := hgw.below hbx
        have hrow := hrow.below hbx
        obtain ⟨c, hc⟩ : ∃ c, c = 2 * k + 1 + j := ⟨_, rfl⟩
        have HCc : Hid (c = 2 * k + 1 + j) := hc
        rw [← hc]
        by_cases hgo : j < 2 ∧ c < n
        · obtain ⟨hj2, hcn⟩ := hgo
          have hst := stg_step keyE (L := M) (a := k) hj2
          have hsl := stg_lt keyE (L := M) (a := k) (j := j) (by rw [HM.out]; omega) hj
          rw [← hc] at hst
          rw [HM.out] at hsl
          have d1 : decide ((c : Int) ≤ 2 * (k : Int) + 2) = true := decide_eq_true (by omega)
          have d2 : decide ((c : Int) < (n : Int)) = true := decide_eq_true (by omega)
          obtain ⟨l, hl⟩ : ∃ l, l = stg keyE M k j := ⟨_, rfl⟩
          rw [← hl] at hsl hst ⊢
          have HST : Hid (stg keyE M k (j + 1) = if lt2 keyE M c l then c else l) := hst
          clear hl hc hst
          obtain ⟨x, hx⟩ : ∃ x, M[c]? = some x := ⟨_, List.getElem?_eq_getElem (by rw [HM.out]; exact hcn)⟩
          obtain ⟨y, hy⟩ : ∃ y, M[l]? = some y := ⟨_, List.getElem?_eq_getElem (by rw [HM.out]; exact hsl)⟩
          have hX := hrow.at' hx
          have hY := hrow.at' hy
          have HX : Hid (M[c]? = some x) := hx
          have HY : Hid (M[l]? = some y) := hy
          clear hx hy
          have HC := fun d os => before_any g sv x y (grow (redrawn wr d) os) (hgw.below (below_regrown wr d os))
          have k0 := cell_regrown hX.1
          have k1 := cell_regrown hX.2.1
          have k2 := cell_regrown hX.2.2.1
          have k3 := cell_regrown hX.2.2.2
          have l0 := cell_regrown hY.1
          have l1 := cell_regrown hY.2.1
          have l2 := cell_regrown hY.2.2.1
          have l3 := cell_regrown hY.2.2.2
          have i0 : 0 ≤ (c : Int) ∧ (c : Int) < (n : Int) := by omega
          have i1 : 0 ≤ (l : Int) ∧ (l : Int) < (n : Int) := by omega
          clear hX hY
          unfold valE at HC
          obtain ⟨t, ht⟩ : ∃ t, t = decide (keyE x < keyE y) := ⟨_, rfl⟩
          rw [← ht] at HC
          have HT : Hid (t = lt2 keyE M c l) := by unfold lt2; rw [HX.out, HY.out]; exact ht
          clear ht
          go_wp2_with fail
          refine wp_region_quiet_below (by kernel_rfl) (by kernel_rfl) ?_
          repeat (go_big_quiet_step ((go_at_call 91; exact Calls.regrown_of (HC _ _))))
          refine wpQuiet_nil ?_
          intro W5 hw'
          have hb5 : Below wr.heap.size wr W5 := by
            obtain ⟨⟨dq, osq⟩, rfl⟩ := hw'
            exact below_regrown _ _ _
          have hb6 := hbx.trans (hb5.mono hbx.size)
          clear hw' HC k0 k1 k2 k3 l0 l1 l2 l3 hb5 hgw hrow hbx
          cases t with
          | false =>
            go_wp2_with fail
            exact ⟨⟨j + 1, by omega, by rw [HST.out, ← HT.out]; rfl, by rw [show 2 * k + 1 + (j + 1) = c + 1 by rw [HCc.out]; omega]; rfl, hb6⟩, by have := HCc.out; simp only [intOf]; omega⟩
          | true =>
            go_wp2_with fail
            exact ⟨⟨j + 1, by omega, by rw [HST.out, ← HT.out]; rfl, by rw [show 2 * k + 1 + (j + 1) = c + 1 by rw [HCc.out]; omega]; rfl, hb6⟩, by have := HCc.out; simp only [intOf]; omega⟩
        · have hst := stg_stop keyE (L := M) (a := k) hj (by rw [HM.out, ← hc]; omega)
          rw [hst]
          clear hst
          obtain ⟨m, hm⟩ : ∃ m, m = leastOf keyE M k := ⟨_, rfl⟩
          rw [← hm]
          have HMm : Hid (m = leastOf keyE M k) := hm
          clear hm
          by_cases hj2 : j < 2
          · have d1 : decide ((c : Int) ≤ 2 * (k : Int) + 2) = true := decide_eq_true (by omega)
            have d2 : decide (c < n) = false := decide_eq_false (by omega)
            clear hc hgo hj2
            go_wp2_with fail
            go_meet
            exact ⟨by rw [HMm.out], hbx⟩
          · have d1 : decide ((c : Int) ≤ 2 * (k : Int) + 2) = false := decide_eq_false (by omega)
            clear hc hgo hj2
            go_wp2_with fail
            go_meet
            exact ⟨by rw [HMm.out], hbx⟩
    case rest =>
      obtain ⟨rfl, hbx⟩ := hcut
      obtain ⟨W5, hW5⟩ : ∃ W5, W5 = wc := ⟨_, rfl⟩
      subst hW5
      have hrow5 := hrow.below hbx
      have hgr5 := grownBy_below hgr hbx
      have fz := hrow5.free
      have HS : Hid (∀ f, n - k ≤ f → sinkF keyE f M k = R → leastOf keyE M k = k → M = R) := by
        intro f h1 h2 h3
        cases f with
        | zero => exact h2
        | succ f => unfold sinkF at h2; rw [if_pos h3] at h2; exact h2
      by_cases hm : leastOf keyE M k = k
      · rw [hm]
        have HE : Hid (M = R) := HS.out f hkf HRf.out hm
        clear hm
        go_wp2_with fail
        refine bodyPost_ret (results_none rfl _ _ _) rfl ?_
        refine ⟨rfl, ?_, hgr5⟩
        rw [← HE.out]
        exact hrow5
      · obtain ⟨g1, g2, g3, -⟩ := leastOf_other keyE hm
        obtain ⟨f', hf'⟩ : ∃ f', f = f' + 1 := ⟨f - 1, by rw [HM.out] at g2; omega⟩
        subst hf'
        have h2 := HRf.out
        unfold sinkF at h2
        rw [if_neg hm] at h2
        obtain ⟨p, hp⟩ : ∃ p, p = leastOf keyE M k := ⟨_, rfl⟩
        rw [← hp] at h2 g1 g2 hm ⊢
        rw [HM.out] at g2
        have hkp : k ≠ p := fun e => hm e.symm
        have hkl : k < n := by omega
        have hpk : k < p := by omega
        have hq : ((p : Int) == (k : Int)) = false := by simp; omega
        have HRg : Hid (sinkF keyE f' (swp M k p) p = R) := h2
        clear h2 hp g1 g3 HRf HS hm hbx hgr hrow hgw
        obtain ⟨x, hx⟩ : ∃ x, M[k]? = some x := ⟨_, List.getElem?_eq_getElem (by rw [HM.out]; exact hkl)⟩
        obtain ⟨y, hy⟩ : ∃ y, M[p]? = some y := ⟨_, List.getElem?_eq_getElem (by rw [HM.out]; exact g2)⟩
        have hX := hrow5.at' hx
        have hY := hrow5.at' hy
        obtain ⟨h5, h6⟩ := hrow5.put (i := k) (by rw [HM.out]; exact hkl) y
        obtain ⟨h7, h8⟩ := h5.put (i := p) (by rw [List.length_set, HM.out]; exact g2) x
        have h9 := grownBy_trans hgr5 (grownBy_trans h6 h8)
        rw [← swp_eq hx hy] at h7
        clear h5 h6 h8 hgr5 hrow5 hx hy
        have i0 : 0 ≤ (k : Int) ∧ (k : Int) < (n : Int) := by omega
        have i1 : 0 ≤ (p : Int) ∧ (p : Int) < (n : Int) := by omega
        obtain ⟨x1, x2, x3, x4, hx5⟩ := x
        obtain ⟨y1, y2, y3, y4, hy5⟩ := y
        obtain ⟨hX1, hX2, hX3, hX4⟩ := hX
        obtain ⟨hY1, hY2, hY3, hY4⟩ := hY
        unfold putE at h7 h9
        dsimp only at hX1 hX2 hX3 hX4 hY1 hY2 hY3 hY4 h7 h9
        go_wp2_with fail
        refine wp_region_any (by kernel_rfl) ?_
        show wpAny _ _ _ _ 16 _ _ _
        refine wpAny_move (i := 0) (.tmp 1) rfl rfl rfl (by kernel_rfl) (by kernel_rfl) (by kernel_rfl) (fun _ _ _ _ h => h) ?_
        refine wpAny_move (i := 1) (.tmp 2) rfl rfl rfl (by kernel_rfl) (by kernel_rfl) (by kernel_rfl) (fun _ _ _ _ h => h) ?_
        refine wpAny_move (i := 2) (.tmp 1) rfl rfl rfl (by kernel_rfl) (by kernel_rfl) (by kernel_rfl) (fun _ _ _ _ h => h) ?_
        refine wpAny_move (i := 3) (.tmp 6) rfl rfl rfl (by kernel_rfl) (by kernel_rfl) (by kernel_rfl) (fun _ _ _ _ h => h) ?_
        refine wpAny_move (i := 4) (.tmp 1) rfl rfl rfl (by kernel_rfl) (by kernel_rfl) (by kernel_rfl) (fun _ _ _ _ h => h) ?_
        refine wpAny_move (i := 5) (.tmp 6) rfl rfl rfl (by kernel_rfl) (by kernel_rfl) (by kernel_rfl) (fun _ _ _ _ h => h) ?_
        go_simp
        refine wpAny_take (i := 6) (v := .pointer (some ⟨b, p * 4, none⟩)) rfl (by kernel_rfl) (by kernel_rfl) (by kernel_rfl) (fun _ _ _ h => h) (.inl ⟨by kernel_rfl, fun w' => by go_simp⟩) ?_
        refine wpAny_move (i := 8) (.tmp 1) rfl rfl rfl (by kernel_rfl) (by kernel_rfl) (by kernel_rfl) (fun _ _ _ _ h => h) ?_
        refine wpAny_move (i := 9) (.tmp 2) rfl rfl rfl (by kernel_rfl) (by kernel_rfl) (by kernel_rfl) (fun _ _ _ _ h => h) ?_
        go_simp
        refine wpAny_take (i := 10) (v := .pointer (some ⟨b, k * 4, none⟩)) rfl (by kernel_rfl) (by kernel_rfl) (by kernel_rfl) (fun _ _ _ h => h) (.inl ⟨by kernel_rfl, fun w' => by go_simp⟩) ?_
        go_simp
        refine wpAny_load (i := 7) (j := 11) (u := .agg #[.int .i64 x1, .int .i64 x2, .int .i64 x3, .int .i64 x4]) (S := fun w' => w'.cell? ⟨b, k * 4, none⟩ = some (.int .i64 x1) ∧ w'.cell? ⟨b, k * 4 + 1, none⟩ = some (.int .i64 x2) ∧ w'.cell? ⟨b, k * 4 + 2, none⟩ = some (.int .i64 x3) ∧ w'.cell? ⟨b, k * 4 + 3, none⟩ = some (.int .i64 x4)) _ [12, 13, 14, 15] rfl rfl (by kernel_rfl) (by kernel_rfl) (by omega) (by kernel_rfl) (by kernel_rfl) (by kernel_rfl) (by kernel_rfl) (by simp) (fun _ _ _ _ h => h) (.inl ⟨by kernel_rfl, fun w' hw' => by obtain ⟨q1, q2, q3, q4⟩ := hw'; go_simp⟩) ⟨hX1, hX2, hX3, hX4⟩ rfl ?_
        intro K hK
        simp only [pick, List.take_succ_cons, List.take_zero, List.drop_succ_cons, List.drop_zero, List.nil_append, List.cons_append] at hK
        go_simp
        refine hK _ _ ⟨hX1, hX2, hX3, hX4⟩ ?_
        clear hK K
        go_wp2_with fail
        exact ⟨⟨p, f', swp M k p, by omega, by omega, rfl, by rw [swp_length]; exact HM.out, HRg.out, h7.drew, grownBy_drew h9⟩, by simp only [intOf]; omega⟩
end Go.Proofs.YtjbdhakogbolkaaDoor.HQ
end
section
/- A row of one's own is lengthened by one thing: append's run. -/
namespace Go.Proofs.YtjbdhakogbolkaaDoor
open Go.RowKit Go.Sort Go.Joins
set_option linter.unusedVariables false
/-- What becomes of a value that is lengthened: its block or a new one. -/
def Moved (v v' : Value) (B : Nat) : Prop := ∀ b, v'.ownBlock = some b → v.ownBlock = some b ∨ B ≤ b
theorem flat_length {α : Type} {k : Nat} {enc : α → List Value} (hk : ∀ x, (enc x).length = k) (l : List α) : (l.flatMap enc).length = l.length * k := by
  induction l with
  | nil => simp
  | cons x l ih => rw [List.flatMap_cons, List.length_append, hk, ih, List.length_cons, Nat.add_mul, Nat.one_mul, Nat.add_comm]
theorem run_own_g {α : Type} (S T : TypeId) (i0 : TypeInfo) (z : Value) (k by_ : Nat) (enc : α → List Value) (hk : ∀ x, (enc x).length = k) (hk0 : 0 < k) (hone : ∀ x, ∀ v ∈ enc x, v.oneCell' = true) (hS : Tryd.prog.underlying S = some (.slice T)) (hi : Tryd.prog.info? T = some i0) (hz0 : i0.zero = some z) (hz1 : i0.size = k) (hz2 : i0.bytes = by_) (hzc : z.cells.size = k)
    (W : World) (base : Nat) (v : Value) (l : List α) (x : α) (b cap : Nat) (hown : W.ownsRow base T k v l.length (l.flatMap enc)) (hx : W.heap[b]? = some (.cells (enc x).toArray T (0, 0))) (hb : base ≤ W.heap.size) (hsz : (l.length + 1) * by_ ≤ 140737488355328) (hl : l.length + 1 ≤ 9223372036854775807) :
    ∃ v' w', (Builtin.append_ #[S, S] S #[v, .slice (some ⟨b, 0, none⟩) 1 cap]).run Tryd.prog W = .ok v' w' ∧ w'.ownsRow base T k v' (l ++ [x]).length ((l ++ [x]).flatMap enc) ∧ W.grownBy w' v.ownBlock ∧ Moved v v' W.heap.size := by
  have hc : ∀ j u, (enc x)[j]? = some u → W.cell? ((⟨b, 0, none⟩ : Addr).add j) = some u := by
    intro j u hu
    rw [cell_add, Nat.zero_add, cell_of_block hx]
    simpa using hu
  have hl4 : (enc x).length = 1 * k := by rw [hk, Nat.one_mul]
  have hend : ∀ (v' : Value) (w' : World), w'.ownsRow base T k v' (l.length + 1) (l.flatMap enc ++ enc x) → w'.ownsRow base T k v' (l ++ [x]).length ((l ++ [x]).flatMap enc) := by
    intro v' w' h
    rw [List.length_append, List.flatMap_append, show [x].flatMap enc = enc x by simp]
    exact h
  rcases hown.2 with ⟨rfl, h0⟩ | ⟨g, cp, cur, rfl, hg, hh, hn, hm, hcs, ht⟩
  · obtain ⟨v', w', h1, h2, h3, _⟩ := run_append_own (P := Tryd.prog) W W.heap.size S S T i0 z k by_ hS hi hz0 hz1 hz2 hzc hk0 (.slice none 0 0) l.length (l.flatMap enc) ⟨hown.1, .inl ⟨rfl, h0⟩⟩ ⟨b, 0, none⟩ 1 cap (enc x) hl4 hc (hone x) (by unfold maxLen; omega) hsz (Nat.le_refl _)
    refine ⟨v', w', h1, hend v' w' (ownsRow_le h2 hb), h3, fun i hi => .inr ?_⟩
    rcases h2.2 with ⟨hv, _⟩ | ⟨b2, cap2, cur2, hv, hbb, _⟩
    · rw [hv] at hi; cases hi
    · rw [hv] at hi; cases hi; exact hbb
  · by_cases hroom : l.length + 1 ≤ cp
    · obtain ⟨w', h1, h2, h3⟩ := run_append_fits (P := Tryd.prog) W base S S T i0 k hS hi hz1 g l.length cp (l.flatMap enc) hown ⟨b, 0, none⟩ 1 cap (enc x) hl4 hc (hone x) hroom
      exact ⟨_, w', h1, hend _ w' h2, h3, fun i hi => .inl hi⟩
    · obtain ⟨v', w', h1, h2, h3⟩ := run_append_arg_grows (P := Tryd.prog) W S S T i0 z k by_ hS hi hz0 hz1 hz2 hzc hk0 ⟨g, 0, none⟩ l.length cp (l.flatMap enc) (flat_length hk l) (fun j u hu => by
        have hj : j < l.length * k := by
          rw [← flat_length hk l]
          exact (List.getElem?_eq_some_iff.1 hu).1
        rw [cell_add, Nat.zero_add, World.ownsRow.cellAt hown j hj, hu]) ⟨b, 0, none⟩ 1 cap (enc x) hl4 hc (by omega) (by unfold maxLen; omega) hsz
      refine ⟨v', w', h1, hend v' w' (ownsRow_le h2 hb), ?_, fun i hi => .inr ?_⟩
      · exact ⟨h3.os, h3.tape, h3.output, h3.size, fun j hj _ => h3.block j hj (by simp)⟩
      · rcases h2.2 with ⟨hv, _⟩ | ⟨b2, cap2, cur2, hv, hbb, _⟩
        · rw [hv] at hi; cases hi
        · rw [hv] at hi; cases hi; exact hbb
end Go.Proofs.YtjbdhakogbolkaaDoor
end
section
/- RMono's law once more, for a tail that waits for the head through the head itself. -/
namespace Go.Proofs.YtjbdhakogbolkaaDoor
open Go.RowKit
section
variable {P : Program} {ops : Array Oper} {md : Region.Mode}
/-- What lies behind the head waits for it: itself, or through what it waits for. -/
def tailB2 (md : Region.Mode) (ops : Array Oper) (n k : Nat) : Bool :=
  (List.range ops.size).all fun t => decide (t < k) || ((List.range n).all fun i => Region.waitsFor md ops t i || (List.range n).any fun j => decide (i < j) && Region.waitsFor md ops j i) || (List.range t).any fun j => decide (k ≤ j) && Region.waitsFor md ops t j
def monoB2 (md : Region.Mode) (ops : Array Oper) (n k : Nat) (ds : List Nat) : Bool :=
  decide (ds.length = n) && decide (n ≤ k) && decide (k ≤ ops.size) && tailB2 md ops n k &&
  Region.seqB md ops (ops.size - k) k (Array.replicate k true ++ Array.replicate (ops.size - k) false) && nodupB ds &&
  ((List.range n).all fun i => match ops[i]? with
    | some o => (depsOf md o).all (fun j => decide (j < i)) && decide (o.dst = ds[i]?)
    | none => false)
structure MInv2 (md : Region.Mode) (ops : Array Oper) (n k : Nat) (T : List (Value → World → Prop)) (ds : List Nat) (a0 : Act) (W : World) (listed : Array Bool) (a : Act) (w : World) : Prop where
  size : listed.size = ops.size
  pre : ∀ t, n ≤ t → t < k → listed.getD t false = true
  tail : ∀ t, k ≤ t → t < ops.size → listed.getD t true = false
  bel : Below W.heap.size W w
  frame : FrameEq ds a0 a
  rows : ∀ (i : Nat), i < n → listed.getD i false = true → rowAt T ds i a w
  closed : ∀ (i : Nat) (o : Oper), i < n → listed.getD i false = true → ops[i]? = some o → ∀ e ∈ o.after, Region.binds md e = true → listed.getD e.on false = true
theorem wpAny_mono2 {n k : Nat} {T : List (Value → World → Prop)} {ds : List Nat} {a0 : Act} {W : World} {l : List Oper} {Q : Exit → Act → World → Prop} (hl : l.toArray = ops) (hT : T.length = n) (hB : monoB2 md ops n k ds = true)
    (hin0 : ∀ d ∈ ds, d < a0.tmps.size) (hst : ∀ φ ∈ T, ∀ v w w', Below w.heap.size w w' → φ v w → φ v w') (hs : stepsM P md ops T ds a0 W T l)
    (hf : ∀ a, FrameEq ds a0 a → ∀ w, Below W.heap.size W w → (∀ (i : Nat), rowAt T ds i a w) → wpList P ops Q (l.drop k) a w) :
    ∀ (m : Nat) (listed : Array Bool) (a : Act) (w : World), cntU n listed = m → MInv2 md ops n k T ds a0 W listed a w → wpAny P md ops Q (m + (ops.size - k)) listed a w := by
  unfold monoB2 at hB
  simp only [Bool.and_eq_true, decide_eq_true_eq] at hB
  obtain ⟨⟨⟨⟨⟨⟨hlen, hnk⟩, hk⟩, htail⟩, hseq⟩, hnd⟩, hops⟩ := hB
  have hn : n ≤ ops.size := Nat.le_trans hnk hk
  have hlsz : l.length = ops.size := by rw [← hl]; simp
  intro m
  induction m with
  | zero =>
    intro listed a w hc inv
    have hall := cntU_zero n listed hc
    have hli : listed = Array.replicate k true ++ Array.replicate (ops.size - k) false := by
      refine Array.ext (by rw [inv.size]; simp; omega) fun i h1 h2 => ?_
      have hi : i < ops.size := by rw [← inv.size]; exact h1
      by_cases hik : i < k
      · have : listed.getD i false = true := by
          by_cases hin : i < n
          · exact hall i hin
          · exact inv.pre i (by omega) hik
        rw [Array.getElem_append_left (by simpa using hik)]
        simp [h1] at this
        simp [this]
      · have := inv.tail i (by omega) hi
        rw [Array.getElem_append_right (by simp; omega)]
        simp [h1] at this
        simp [this]
    rw [Nat.zero_add]
    have := wpAny_of_seq (P := P) (md := md) (ops := ops) (Q' := Q) (l.drop k) k listed a w (fun j => by rw [← hl]; simp) (by
      rw [List.length_drop, hlsz, hli]; exact hseq) (hf a inv.frame w inv.bel fun i φ d hr hd => by
        have hin : i < n := by
          have := (List.getElem?_eq_some_iff.1 hr).1
          omega
        exact inv.rows i hin (hall i hin) φ d hr hd)
    rwa [List.length_drop, hlsz] at this
  | succ m ih =>
    intro listed a w hc inv
    rw [show m + 1 + (ops.size - k) = (m + (ops.size - k)) + 1 by omega]
    refine ⟨fun h0 => ?_, fun i hi => ?_⟩
    · exfalso
      obtain ⟨i, h1, h2, h3⟩ := cntU_pos n listed (by omega)
      have hio := List.all_eq_true.1 hops i (List.mem_range.2 h1)
      obtain ⟨o, ho⟩ : ∃ o, ops[i]? = some o := ⟨_, Array.getElem?_eq_getElem (by omega)⟩
      rw [ho] at hio
      simp only [Bool.and_eq_true] at hio
      have : i ∈ Region.ready md ops listed := mem_ready.2 ⟨getD_in (by rw [inv.size]; omega) h2, o, ho, fun e he hb => h3 _ (by
        have := List.all_eq_true.1 hio.1 e.on (mem_depsOf he hb)
        simpa using this)⟩
      rw [h0] at this
      cases this
    · obtain ⟨hun, o, ho, hdep⟩ := mem_ready.1 hi
      have hunf := getD_both hun
      have hisz := (Array.getElem?_eq_some_iff.1 ho).1
      have hik : i < n ∨ k ≤ i := by
        rcases Nat.lt_or_ge i n with h | h
        · exact .inl h
        · rcases Nat.lt_or_ge i k with h' | h'
          · have := inv.pre i h h'
            rw [hunf] at this; cases this
          · exact .inr h'
      have hin : i < n := by
        rcases hik with h | h
        · exact h
        · exfalso
          obtain ⟨q, h1, h2, h3⟩ := cntU_pos n listed (by omega)
          have ht := List.all_eq_true.1 htail i (List.mem_range.2 hisz)
          simp only [Bool.or_eq_true, decide_eq_true_eq] at ht
          rcases ht with (ht | ht) | ht
          · omega
          · have key : ∀ (d q : Nat), q < n → n - q ≤ d → listed.getD q false = false → False := fun d => by
              induction d with
              | zero => intro q h1 h4 _; omega
              | succ d ihd =>
                intro q h1 h4 h2
                have hq := List.all_eq_true.1 ht q (List.mem_range.2 h1)
                simp only [Bool.or_eq_true] at hq
                rcases hq with hq | hq
                · obtain ⟨oj, hoj, e, he, hb, hon⟩ := Region.waitsFor_spec hq
                  obtain rfl : oj = o := Option.some.inj (hoj.symm.trans ho)
                  have := hdep e he hb
                  rw [hon, h2] at this
                  cases this
                · obtain ⟨j, hj, hj2⟩ := List.any_eq_true.1 hq
                  simp only [Bool.and_eq_true, decide_eq_true_eq] at hj2
                  have hjn := List.mem_range.1 hj
                  obtain ⟨oj, hoj, e, he, hb, hon⟩ := Region.waitsFor_spec hj2.2
                  cases hlj : listed.getD j false with
                  | true =>
                    have := inv.closed j oj hjn hlj hoj e he hb
                    rw [hon, h2] at this
                    cases this
                  | false => exact ihd j hjn (by omega) hlj
            exact key n q h1 (by omega) h2
          · obtain ⟨j, hj, hj2⟩ := List.any_eq_true.1 ht
            simp only [Bool.and_eq_true, decide_eq_true_eq] at hj2
            obtain ⟨oj, hoj, e, he, hb, hon⟩ := Region.waitsFor_spec hj2.2
            obtain rfl : oj = o := Option.some.inj (hoj.symm.trans ho)
            have := hdep e he hb
            have hjl := List.mem_range.1 hj
            rw [hon, getD_both (inv.tail j hj2.1 (by omega))] at this
            cases this
      obtain ⟨φ, hr⟩ : ∃ φ, T[i]? = some φ := ⟨_, List.getElem?_eq_getElem (by omega)⟩
      obtain ⟨d, hd⟩ : ∃ d, ds[i]? = some d := ⟨_, List.getElem?_eq_getElem (by omega)⟩
      have hio := List.all_eq_true.1 hops i (List.mem_range.2 hin)
      rw [ho] at hio
      simp only [Bool.and_eq_true, decide_eq_true_eq] at hio
      have hod : o.dst = some d := hio.2.trans hd
      have hlo : l[i]? = some o := by rw [← ho, ← hl]; simp
      have hstep := stepsM_get hs i φ o hr hlo a inv.frame w inv.bel (fun j hj => by
        have hji : j < i := by
          have := List.all_eq_true.1 hio.1 j (by simpa using hj)
          simpa using this
        refine inv.rows j (by omega) ?_
        unfold depsOf at hj
        simp only [List.contains_iff_mem, List.mem_map, List.mem_filter] at hj
        obtain ⟨e, ⟨he, hb⟩, rfl⟩ := hj
        exact hdep e (by simpa using he) hb)
      have hdm : d ∈ ds := List.mem_of_getElem? hd
      have hsz : d < a.tmps.size := by rw [inv.frame.size]; exact hin0 d hdm
      have hnext : ∀ v w', Below w.heap.size w w' → φ v w' → MInv2 md ops n k T ds a0 W (listed.setIfInBounds i true) (a.put o.dst v) w' := fun v w' hb hrv => by
        rw [hod]
        refine ⟨by simp [inv.size], fun t h1 h2 => getD_set_true (inv.pre t h1 h2), fun t h1 h2 => by rw [getD_set_ne true (by omega)]; exact inv.tail t h1 h2, inv.bel.trans (hb.mono inv.bel.size), inv.frame.put (fun k hk => (Option.some.inj hk) ▸ hdm) v, fun j hjn hjl ψ d' hr' hd' => ?_, fun j oj hjn hjl hoj e he hb2 => ?_⟩
        rotate_left
        · by_cases hji : j = i
          · subst hji
            obtain rfl : oj = o := Option.some.inj (hoj.symm.trans ho)
            exact getD_set_true (hdep e he hb2)
          · rw [getD_set_ne false (fun e => hji e.symm)] at hjl
            exact getD_set_true (inv.closed j oj hjn hjl hoj e he hb2)
        by_cases hji : j = i
        · subst hji
          obtain rfl : ψ = φ := Option.some.inj (hr'.symm.trans hr)
          obtain rfl : d' = d := Option.some.inj (hd'.symm.trans hd)
          have : (a.put (some d') v).eval (.tmp d') = v := by simp [Act.eval, Act.put, hsz]
          rw [this]
          exact hrv
        · rw [getD_set_ne false (fun e => hji e.symm)] at hjl
          have h0 := inv.rows j hjn hjl ψ d' hr' hd'
          have h1 := hst ψ (List.mem_of_getElem? hr') _ w w' hb h0
          rw [Act.eval_put fun k hk e => ?_]
          · exact h1
          · cases e
            obtain rfl := Option.some.inj hk
            exact hji (nodupB_spec hnd j i _ hd' hd)
      have hcs : cntU n (listed.setIfInBounds i true) = m := by
        have := cntU_set n i listed hin (by rw [inv.size]; omega) hunf
        omega
      unfold wpOp
      simp only [ho]
      unfold mStep at hstep
      by_cases hw : Region.wanted o (yielded ops a.tmps) = true
      · rw [if_pos hw] at hstep ⊢
        refine .inl ?_
        unfold Oper.wp
        generalize (execOp a.eval o).run P w = res at *
        cases res with
        | ok nx w' =>
          cases nx <;> simp only [mUpon] at hstep <;> simp only [Oper.upon]
          case value u => exact ih _ _ _ hcs (hnext u w' hstep.1 hstep.2)
          case skip => exact ih _ _ _ hcs (hnext undef w' hstep.1 hstep.2)
          case enter f args =>
            refine hstep.mono ?_
            rintro e w'' ⟨v, rfl, h1, h2⟩
            exact ih _ _ _ hcs (hnext v w'' h1 h2)
        | halt x w' => simp only [mUpon] at hstep
      · rw [if_neg hw] at hstep ⊢
        exact ih _ _ _ hcs (hnext undef w (Below.refl _ _) hstep)
theorem wp_region_mono2 {id : Nat} {Q : Exit → Act → World → Prop} {a0 : Act} {w : World} {l : List Oper} (n : Nat) (ds : List Nat) (T : List (Value → World → Prop)) (hm : P.follows .mixedOrders = true) (hB : monoB2 .any l.toArray n n ds = true) (hT : T.length = n)
    (hin0 : (ds.all fun d => decide (d < a0.tmps.size)) = true) (hst : ∀ φ ∈ T, ∀ v w w', Below w.heap.size w w' → φ v w → φ v w') (hs : stepsM P .any l.toArray T ds a0 w.drew T l)
    (hf : ∀ w', Below w.heap.size w.drew w' → finV ds T a0 w' fun a => wpList P l.toArray Q (l.drop n) a w') : (Code.region id l.toArray true).wp P Q a0 w := by
  refine wp_region_any hm ?_
  have hn : n ≤ l.toArray.size ∧ ds.length = n := by
    unfold monoB2 at hB
    simp only [Bool.and_eq_true, decide_eq_true_eq] at hB
    exact ⟨hB.1.1.1.1.2, hB.1.1.1.1.1.1⟩
  have := wpAny_mono2 (P := P) (md := .any) (Q := Q) (a0 := a0) (W := w.drew) rfl hT hB (fun d hd => by simpa using List.all_eq_true.1 hin0 d hd) hst hs (fun a he w' hb hr => finV_of ds T (by rw [hT]; exact hn.2) (hf w' hb) he fun i φ d h1 h2 => hr i φ d h1 h2) n (Array.replicate l.toArray.size false) a0 w.drew (cntU_replicate _ _)
    ⟨by simp, fun t h1 h2 => by omega, fun t _ ht => getD_in (by simpa using ht) (getD_replicate_false _ _), Below.refl _ _, FrameEq.refl _ _, fun i _ h => (by rw [getD_replicate_false] at h; cases h), fun i _ _ h => (by rw [getD_replicate_false] at h; cases h)⟩
  rw [show n + (l.toArray.size - n) = l.toArray.size by omega] at this
  exact this
end
end Go.Proofs.YtjbdhakogbolkaaDoor
end
section
/- A region that draws its order: its head (loads among calls that keep what the loads read) in whatever order, S holding all the while; then its tail, one operation behind the other, of which nothing is asked for S. -/
namespace Go.Proofs.YtjbdhakogbolkaaDoor
open Go.RowKit
section
variable {P : Program} {ops : Array Oper} {md : Region.Mode} {Q : Exit → Act → World → Prop} {S : World → Prop} {n : Nat} {L : Array Bool → Act → World → Prop}
def HL (P : Program) (md : Region.Mode) (ops : Array Oper) (Q : Exit → Act → World → Prop) (S : World → Prop) (n : Nat) (L : Array Bool → Act → World → Prop) : Nat → Array Bool → Act → World → Prop
  | 0, listed, a, w => L listed a w
  | f + 1, listed, a, w =>
    Region.ready md ops listed ≠ [] ∧ ∀ i ∈ Region.ready md ops listed, i < n ∧ wpOp P ops Q i (fun a' w' => S w' ∧ HL P md ops Q S n L f (listed.setIfInBounds i true) a' w') a w
theorem of_HL {g : Nat} (hL : ∀ listed a w, L listed a w → wpAny P md ops Q g listed a w) : ∀ (f : Nat) (listed : Array Bool) (a : Act) (w : World), HL P md ops Q S n L f listed a w → wpAny P md ops Q (f + g) listed a w
  | 0, listed, a, w, h => by rw [Nat.zero_add]; exact hL _ _ _ h
  | f + 1, listed, a, w, h => by
    rw [show f + 1 + g = (f + g) + 1 by omega]
    exact ⟨fun h0 => absurd h0 h.1, fun i hi => wpOp_mono (fun a' w' h' => of_HL hL f _ a' w' h'.2) (h.2 i hi).2⟩
/-- No operation of the tail has come up; what one that has come up waits for has come up. -/
structure TailNo (md : Region.Mode) (ops : Array Oper) (n : Nat) (listed : Array Bool) : Prop where
  no : ∀ t, n ≤ t → t < ops.size → listed.getD t true = false
  closed : ∀ (i : Nat) (o : Oper), listed.getD i false = true → ops[i]? = some o → ∀ e ∈ o.after, Region.binds md e = true → listed.getD e.on false = true
theorem head_all (ht : tailB2 md ops n n = true) {listed : Array Bool} (hv : TailNo md ops n listed) {j : Nat} (hj : j ∈ Region.ready md ops listed) (hnj : n ≤ j) : ∀ d i, i < n → n - i ≤ d → listed.getD i false = true := by
  obtain ⟨hun, o, ho, hdep⟩ := mem_ready.1 hj
  have hjsz := (Array.getElem?_eq_some_iff.1 ho).1
  have h1 := List.all_eq_true.1 ht j (List.mem_range.2 hjsz)
  simp only [Bool.or_eq_true, decide_eq_true_eq] at h1
  intro d
  induction d with
  | zero => intro i hi hd; omega
  | succ d ih =>
    intro i hi hd
    rcases h1 with (h1 | h1) | h1
    · omega
    · have h2 := List.all_eq_true.1 h1 i (List.mem_range.2 hi)
      simp only [Bool.or_eq_true] at h2
      rcases h2 with h2 | h2
      · obtain ⟨oj, hoj, e, he, hb, hon⟩ := Region.waitsFor_spec h2
        obtain rfl : oj = o := Option.some.inj (hoj.symm.trans ho)
        have := hdep e he hb
        rwa [hon] at this
      · obtain ⟨k, hk, hk2⟩ := List.any_eq_true.1 h2
        simp only [Bool.and_eq_true, decide_eq_true_eq] at hk2
        have hkn := List.mem_range.1 hk
        obtain ⟨ok, hok, e, he, hb, hon⟩ := Region.waitsFor_spec hk2.2
        have := hv.closed k ok (ih k hkn (by omega)) hok e he hb
        rwa [hon] at this
    · obtain ⟨k, hk, hk2⟩ := List.any_eq_true.1 h1
      simp only [Bool.and_eq_true, decide_eq_true_eq] at hk2
      obtain ⟨oj, hoj, e, he, hb, hon⟩ := Region.waitsFor_spec hk2.2
      obtain rfl : oj = o := Option.some.inj (hoj.symm.trans ho)
      have := hdep e he hb
      have hkl := List.mem_range.1 hk
      rw [hon, getD_both (hv.no k hk2.1 (by omega))] at this
      cases this
theorem head_ready (ht : tailB2 md ops n n = true) {listed : Array Bool} (hv : TailNo md ops n listed) {i j : Nat} (hi : i < n) (hu : listed.getD i false = false) (hj : j ∈ Region.ready md ops listed) : j < n := by
  rcases Nat.lt_or_ge j n with h | h
  · exact h
  · have := head_all ht hv hj h n i hi (by omega)
    rw [hu] at this; cases this
theorem TailNo.set {listed : Array Bool} (h : TailNo md ops n listed) {i : Nat} (hi : i < n) (hr : i ∈ Region.ready md ops listed) : TailNo md ops n (listed.setIfInBounds i true) := by
  refine ⟨fun t h1 h2 => by rw [getD_set_ne true (by omega)]; exact h.no t h1 h2, fun k o hk ho e he hb => ?_⟩
  obtain ⟨hun, oi, hoi, hdep⟩ := mem_ready.1 hr
  by_cases hki : k = i
  · subst hki
    obtain rfl : oi = o := Option.some.inj (hoi.symm.trans ho)
    exact getD_set_true (hdep e he hb)
  · rw [getD_set_ne false (fun e => hki e.symm)] at hk
    exact getD_set_true (h.closed k o hk ho e he hb)
theorem HL_first {i : Nat} {oi : Oper} {v : Value} (hi : ops[i]? = some oi) (hsel : ∀ (j : Nat) (o : Oper) cs b, ops[j]? = some o → o.op ≠ .select cs b)
    (hQ : ∀ c a w, Q (.panic c) (a.put oi.dst v) w → Q (.panic c) a w) (ht : tailB2 md ops n n = true) (hin : i < n) (hdone : ∀ listed a w, L listed a w → ∀ j ∈ Region.ready md ops listed, n ≤ j) :
    ∀ (f : Nat) (listed : Array Bool) (a : Act) (w : World), TailNo md ops n listed →
      (∀ j oj, ops[j]? = some oj → j ≠ i → listed.getD j true = false → (∀ e ∈ oj.after, Region.binds md e = true → e.on ≠ i) → oi.apart ops oj = true) →
      i ∈ Region.ready md ops listed → YieldsIf P ops S oi v a → S w →
      HL P md ops Q S n L f (listed.setIfInBounds i true) (a.put oi.dst v) w → HL P md ops Q S n L (f + 1) listed a w := by
  intro f
  induction f with
  | zero =>
    intro listed a w hv _ hr hy hS H
    refine ⟨fun h => (by rw [h] at hr; cases hr), fun j hj => ?_⟩
    have hjn := head_ready ht hv hin (getD_both (mem_ready.1 hr).1) hj
    refine ⟨hjn, ?_⟩
    by_cases hji : j = i
    · subst hji; exact hy.wpOp hi hS ⟨hS, H⟩
    · have := hdone _ _ _ H j (ready_mono hj hji)
      omega
  | succ f ih =>
    intro listed a w hv hfree hr hy hS H
    refine ⟨fun h => (by rw [h] at hr; cases hr), fun j hj => ?_⟩
    have hjn := head_ready ht hv hin (getD_both (mem_ready.1 hr).1) hj
    refine ⟨hjn, ?_⟩
    by_cases hji : j = i
    · subst hji; exact hy.wpOp hi hS ⟨hS, H⟩
    · have h1 := (H.2 j (ready_mono hj hji)).2
      obtain ⟨hjun, oj, hoj, hall⟩ := mem_ready.1 hj
      have hnot : ∀ e ∈ oj.after, Region.binds md e = true → e.on ≠ i := fun e he hb heq => by
        have h1 := hall e he hb
        have h0 := (mem_ready.1 hr).1
        rw [heq] at h1
        rw [getD_both h0] at h1
        cases h1
      have h2 := wpOp_putIf hoj (hfree j oj hoj hji hjun hnot) (fun cs b => hsel i oi cs b hi) (fun cs b => hsel j oj cs b hoj) hQ hy h1
      have hfree' : ∀ k ok, ops[k]? = some ok → k ≠ i → (listed.setIfInBounds j true).getD k true = false →
          (∀ e ∈ ok.after, Region.binds md e = true → e.on ≠ i) → oi.apart ops ok = true := fun k ok hk hki hun hno => by
        refine hfree k ok hk hki ?_ hno
        by_cases hjk : j = k
        · subst hjk; exact hjun
        · rw [getD_set_ne true hjk] at hun; exact hun
      refine wpOp_mono (fun a' w' h3 => ⟨h3.2.1, ih (listed.setIfInBounds j true) a' w' (hv.set hjn hj) hfree' (ready_mono hr (Ne.symm hji)) h3.1 h3.2.1 ?_⟩) h2
      rw [Array.setIfInBounds_comm _ _ hji]
      exact h3.2.2
/-- What holds behind the head: the tail is to be walked. -/
def TailL (P : Program) (Q : Exit → Act → World → Prop) (n : Nat) (l : List Oper) (listed : Array Bool) (a : Act) (w : World) : Prop :=
  listed = Array.replicate n true ++ Array.replicate (l.length - n) false ∧ wpList P l.toArray Q (l.drop n) a w
def heldB (md : Region.Mode) (l : List Oper) (n : Nat) : Bool :=
  decide (n ≤ l.length) && tailB2 md l.toArray n n && Region.noSelect l.toArray && Region.seqB md l.toArray (l.length - n) n (Array.replicate n true ++ Array.replicate (l.length - n) false)
theorem tailL_done {l : List Oper} {listed : Array Bool} {a : Act} {w : World} (h : TailL P Q n l listed a w) : ∀ j ∈ Region.ready md l.toArray listed, n ≤ j := by
  intro j hj
  obtain ⟨hun, o, ho, _⟩ := mem_ready.1 hj
  rcases Nat.lt_or_ge j n with h1 | h1
  · rw [h.1] at hun
    have hjs : j < (Array.replicate n true ++ Array.replicate (l.length - n) false).size := by simp; omega
    rw [Array.getD_eq_getD_getElem?, Array.getElem?_eq_getElem hjs, Array.getElem_append_left (by simpa using h1)] at hun
    simp at hun
  · exact h1
def tailNoB (md : Region.Mode) (l : List Oper) (n : Nat) (listed : Array Bool) : Bool :=
  ((List.range l.length).all fun t => decide (t < n) || !listed.getD t true) &&
  ((List.range l.length).all fun i => !listed.getD i false || match l[i]? with | some o => o.after.toList.all fun e => !Region.binds md e || listed.getD e.on false | none => true)
theorem tailNo_of {l : List Oper} {listed : Array Bool} (h : tailNoB md l n listed = true) : TailNo md l.toArray n listed := by
  unfold tailNoB at h
  rw [Bool.and_eq_true] at h
  refine ⟨fun t h1 h2 => ?_, fun i o hi ho e he hb => ?_⟩
  · have := List.all_eq_true.1 h.1 t (List.mem_range.2 (by simpa using h2))
    simp only [Bool.or_eq_true, decide_eq_true_eq, Bool.not_eq_true'] at this
    rcases this with h3 | h3
    · omega
    · exact h3
  · have ho' : l[i]? = some o := by simpa using ho
    have := List.all_eq_true.1 h.2 i (List.mem_range.2 (List.getElem?_eq_some_iff.1 ho').1)
    rw [ho', hi] at this
    simp only [Bool.not_true, Bool.false_or] at this
    have := List.all_eq_true.1 this e (by simpa using he)
    rw [hb] at this
    simpa using this
/-- Taken first. -/
theorem HL_take {l : List Oper} {i : Nat} {oi : Oper} (v : Value) {f : Nat} {listed : Array Bool} {a : Act} {w : World} (hB : heldB md l n = true) (hi : l.toArray[i]? = some oi) (hin : i < n) (htn : tailNoB md l n listed = true)
    (hf : Region.free md l.toArray listed i = true) (hr : (Region.ready md l.toArray listed).contains i = true)
    (hQ : ∀ c (a : Act) w, Q (.panic c) (a.put oi.dst v) w → Q (.panic c) a w) (hy : YieldsIf P l.toArray S oi v a) (hS : S w)
    (h : HL P md l.toArray Q S n (TailL P Q n l) f (listed.setIfInBounds i true) (a.put oi.dst v) w) : HL P md l.toArray Q S n (TailL P Q n l) (f + 1) listed a w := by
  unfold heldB at hB
  simp only [Bool.and_eq_true, decide_eq_true_eq] at hB
  exact HL_first hi (Region.noSelect_spec hB.1.2) hQ hB.1.1.2 hin (fun _ _ _ h => tailL_done h) f listed a w (tailNo_of htn) (Region.free_spec hi hf) (by simpa using hr) hy hS h
theorem HL_one {L : Array Bool → Act → World → Prop} {i : Nat} {o : Oper} {f : Nat} {listed : Array Bool} {a : Act} {w : World} (hi : ops[i]? = some o) (hin : i < n) (hr : Region.ready md ops listed = [i]) (hg : o.guard = none)
    (h : o.wp P a w (fun a' w' => S w' ∧ HL P md ops Q S n L f (listed.setIfInBounds i true) a' w') Q) : HL P md ops Q S n L (f + 1) listed a w := by
  refine ⟨by rw [hr]; exact List.cons_ne_nil _ _, fun k hk => ?_⟩
  rw [hr] at hk
  obtain rfl : k = i := by simpa using hk
  refine ⟨hin, ?_⟩
  unfold wpOp
  simp only [hi, Region.wanted, hg, if_true]
  exact .inl h
theorem wp_value {o : Oper} {a : Act} {w w' : World} {v : Value} {K : Act → World → Prop} (hrun : (execOp a.eval o).run P w = .ok (.value v) w') (h : K (a.put o.dst v) w') : o.wp P a w K Q := by
  unfold Oper.wp
  rw [hrun]
  exact h
theorem wp_enter {o : Oper} {a : Act} {w : World} {f : FuncId} {args : Array Value} {K : Act → World → Prop} (hrun : (execOp a.eval o).run P w = .ok (.enter f args) w) (h : Calls P f args w fun e w' => ∃ v, e = .returned v ∧ K (a.put o.dst v) w') : o.wp P a w K Q := by
  unfold Oper.wp
  rw [hrun]
  refine h.mono ?_
  rintro e w' ⟨v, rfl, hK⟩
  exact hK
theorem wp_append {o : Oper} {a : Act} {w : World} {K : Act → World → Prop} (s x : Operand) (t tx : TypeId) (hop : o.op = Op.call { callee := Callee.builtin Builtin.append, args := #[s, x], argTypes := #[t, tx] }) (v y : Value) (hs : a.eval s = v) (hx : a.eval x = y) (R : Value → World → Prop)
    (hr : ∃ v' w', (Builtin.append_ #[t, tx] o.type #[v, y]).run P w = .ok v' w' ∧ R v' w') (hK : ∀ v' w', R v' w' → K (a.put o.dst v') w') : o.wp P a w K Q := by
  obtain ⟨v', w', hrun, hR⟩ := hr
  unfold Oper.wp
  simp [execOp, hop, resolve, invoke, builtin, hs, hx, hrun, Result.andThen]
  exact hK v' w' hR
/-- THE LAW. -/
theorem wp_region_heldtail {id : Nat} {a : Act} {w : World} {l : List Oper} (n : Nat) (S : World → Prop) (hm : P.follows .mixedOrders = true) (hB : heldB .any l n = true)
    (h : HL P .any l.toArray Q S n (TailL P Q n l) n (Array.replicate l.length false) a w.drew) : (Code.region id l.toArray true).wp P Q a w := by
  have hB' := hB
  unfold heldB at hB'
  simp only [Bool.and_eq_true, decide_eq_true_eq] at hB'
  refine wp_region_any hm ?_
  have h1 := of_HL (g := l.length - n) (fun listed a w hl => by
    obtain ⟨rfl, h2⟩ := hl
    have := wpAny_of_seq (P := P) (md := .any) (ops := l.toArray) (Q' := Q) (l.drop n) n (Array.replicate n true ++ Array.replicate (l.length - n) false) a w (fun j => by simp) (by rw [List.length_drop]; exact hB'.2) h2
    rwa [List.length_drop] at this) n _ a w.drew h
  rw [show n + (l.length - n) = l.toArray.size by simp; omega] at h1
  simpa using h1
end
end Go.Proofs.YtjbdhakogbolkaaDoor
end
