/- tesseralaw8.HeapSorts: the walk. -/
import Derived.Test.YtmfbeelnhihlaaaHPOwn
namespace Go.Proofs.Ytmfbeelnhihlaaa.HP
open Go.RowKit Go.Joins Go.Sort
set_option linter.unusedVariables false
set_option linter.unusedSimpArgs false
set_option maxRecDepth 100000
set_option maxHeartbeats 4000000 in
theorem sorts_walk (a : Option Addr) (cap : Nat) (l : List El) (w : World) (hlen : l.length ≤ 9223372036854775807) (hcap : l.length ≤ cap) (hsp : SPS w a l) :
    Calls Try.prog 5 #[.slice a l.length cap] w fun e w' => e = .returned (.bool true) ∧ Below w.heap.size w w' := by
  obtain ⟨n0, hn0⟩ : ∃ n0, n0 = l.length := ⟨_, rfl⟩
  have HN0 : Hid (n0 = l.length) := hn0
  rw [← hn0] at hlen hcap ⊢
  clear hn0
  go_enter Try.func5, Try.ntmps5
  go_upto_if 15 with fail
  go_cut [0] (fun v wx => ∃ L : List El, L.length ≤ 300 ∧ v = .slice a L.length cap ∧ SPS w a L ∧ wx = w)
  case first =>
    by_cases hbig : 300 < n0
    · have d1 : decide ((300 : Int) < (n0 : Int)) = true := decide_eq_true (by omega)
      have d2 : (300 : Int) ≤ (cap : Int) := by omega
      go_wp2_with fail
      go_meet
      exact ⟨l.take 300, by simp; omega, by rw [show (l.take 300).length = 300 by simp; rw [← HN0.out]; omega], hsp.take 300, rfl⟩
    · have d1 : decide (300 < n0) = false := decide_eq_false hbig
      go_wp2_with fail
      go_meet
      exact ⟨l, by rw [← HN0.out]; omega, by rw [HN0.out], hsp, rfl⟩
  case rest =>
    obtain ⟨L, hL, rfl, hsL, hwc⟩ := hcut
    rw [hwc]
    clear hwc wc hsp HN0 hlen hcap n0 l
    have HO := of_any a cap L w (by omega) hsL
    obtain ⟨n, hn⟩ : ∃ n, n = L.length := ⟨_, rfl⟩
    have HN : Hid (n = L.length) := hn
    rw [← hn] at HO hL ⊢
    clear hn
    unfold lessV at HO
    go_wp2_with fail
    refine HO.mono ?_
    rintro e w1 ⟨ga, va, rfl, hA, b1⟩
    clear HO
    have HNw := new_any w1
    unfold lessV at HNw
    go_wp2_with fail
    refine HNw.mono ?_
    rintro e w2 ⟨gb, vb, rfl, hB, b2⟩
    clear HNw
    have hA2 := hA.below b2
    have hd : Dj (hS ga va) (hS gb vb) := fun k h1 h2 => by
      have := hA.in_ k h1
      have := hB.in_ k h2
      omega
    have hB2 := hB.le b1.size
    have B2 := b1.trans (b2.mono b1.size)
    clear hA hB b1 b2
    go_wp2_with fail
    go_loopw [5] (fun u wr => ∃ (k : Nat) (v : Value) (M : List El), k ≤ n ∧ u = .int .i64 (k : Nat) ∧ HeapAt wr w.heap.size ga va (ofF keyE L) ∧ HeapAt wr w.heap.size gb v M ∧ Dj (hS ga va) (hS gb v) ∧ HPf keyE M 0 ∧ M.Perm (L.take k) ∧ Below w.heap.size w wr) (fun u _ => n - (intOf u).toNat)
    case atStart => exact ⟨0, vb, [], Nat.zero_le _, rfl, hA2, hB2, hd, fun i _ hi => by simp at hi, .refl _, B2⟩
    case round =>
      clear hA2 hB2 hd B2
      obtain ⟨k, v, M, hk, rfl, hA, hB, hd, hpf, hpm, hbr⟩ := hrel
      by_cases hlt : k < n
      · have hkl : k < L.length := by rw [← HN.out]; exact hlt
        obtain ⟨x, hx⟩ : ∃ x, L[k]? = some x := ⟨_, List.getElem?_eq_getElem hkl⟩
        have hml : M.length ≤ 300 := by
          have := hpm.length_eq
          simp at this
          omega
        have HPu := push_any _ gb v M x wr hB (by omega)
        rcases hsL with h0 | ⟨ab, ao, rfl, hc⟩
        · rw [h0] at hkl; simp at hkl
        obtain ⟨c0, c1⟩ := (hc k x hx).below hbr
        have i0 : 0 ≤ (k : Int) ∧ (k : Int) < (n : Int) := by omega
        have HX : Hid (L[k]? = some x) := hx
        unfold valE at HPu
        obtain ⟨x1, x2⟩ := x
        dsimp only at HPu c0 c1
        clear hc hx hkl
        go_wp2_with fail
        refine HPu.mono ?_
        rintro e w3 ⟨v3, rfl, hB3, ht⟩
        have hT := Tu.of_tn ht
        have hA3 := hT.heap hA hd.symm
        have hd3 := (hT.dj hd.symm fun q hq => (hA.in_ q hq).2).symm
        have hb3 := hbr.trans (ht.below hB)
        have hpf3 := pushF_heap keyE (x1, x2) hpf
        have hpm3 : (pushF keyE M (x1, x2)).Perm (L.take (k + 1)) := by
          rw [List.take_add_one, HX.out]
          exact (pushF_perm keyE M (x1, x2)).trans ((hpm.cons _).trans (List.perm_append_singleton _ _).symm)
        clear HPu hA hB hT ht hbr hd hpf hpm c0 c1
        go_wp2_with fail
        exact ⟨⟨k + 1, v3, _, by omega, by go_num, hA3, hB3, hd3, hpf3, hpm3, hb3⟩, by simp only [intOf]; omega⟩
      · have hkn : k = n := by omega
        subst hkn
        have hpm2 : M.Perm L := by rw [HN.out, List.take_length] at hpm; exact hpm
        have hSr : Srt L (ofF keyE L) M [] := ⟨ofF_heap keyE L, hpf, ((ofF_perm keyE L).trans hpm2.symm).map keyE, ofF_perm keyE L, fun o ho => by simp at ho⟩
        clear hpm hpf hpm2
        obtain ⟨V, hV⟩ : ∃ V, V = wr := ⟨_, rfl⟩
        subst hV
        go_wp2_with fail
        go_loopw [6, 7] (fun o u wr => ∃ (i : Nat) (va vb : Value) (A B O : List El), i ≤ k ∧ u = .int .i64 (i : Nat) ∧ HeapAt wr w.heap.size ga va A ∧ HeapAt wr w.heap.size gb vb B ∧ RowE wr w.heap.size o O ∧ Dj (hS ga va) (hS gb vb) ∧ Dj (hS ga va) (vS o) ∧ Dj (hS gb vb) (vS o) ∧ Srt L A B O ∧ O.length = i ∧ Below w.heap.size w wr) (fun _ u _ => k - (intOf u).toNat)
        case atStart => exact ⟨0, va, v, _, M, [], Nat.zero_le _, rfl, hA, hB, World.ownsRow_nil _ _ _ _, hd, (fun q _ h => by cases h), (fun q _ h => by cases h), hSr, rfl, hbr⟩
        case round =>
          clear hA hB hd hSr hbr
          obtain ⟨i, va, vb, A, B, O, hi, rfl, hA, hB, hO, hd, hda, hdb, hSr, hOl, hbr⟩ := hrel
          by_cases hlt : i < k
          · have hal : (O ++ A).length = L.length := hSr.perm.length_eq
            have hbl : (A.map keyE).length = (B.map keyE).length := hSr.keys.length_eq
            simp only [List.length_append, List.length_map] at hal hbl
            have hkL := HN.out
            obtain ⟨x, hx⟩ : ∃ x, A[0]? = some x := ⟨_, List.getElem?_eq_getElem (by omega)⟩
            obtain ⟨y, hy⟩ : ∃ y, B[0]? = some y := ⟨_, List.getElem?_eq_getElem (by omega)⟩
            obtain ⟨hxy, hlast, hSn⟩ := hSr.next hx hy
            have hPa := pop_any _ ga va A wr hA (by omega)
            rw [show headR A = .tuple #[valE x, .bool true] by unfold headR; rw [hx]] at hPa
            have hPb := fun w' => pop_any w.heap.size gb vb B w'
            rw [show headR B = .tuple #[valE y, .bool true] by unfold headR; rw [hy]] at hPb
            have hOk : ∀ q, k = i + (q + 1) → True := fun _ _ => trivial
            obtain ⟨x1, x2⟩ := x
            obtain ⟨y1, y2⟩ := y
            unfold valE at hPa hPb
            dsimp only at hPa hPb
            have HSN : Hid (Srt L (popF keyE A) (popF keyE B) (O ++ [(x1, x2)])) := hSn
            have HXY : Hid (x1 = y1) := hxy
            have HLA : Hid (∀ o, O.getLast? = some o → keyE o ≤ x1) := hlast
            have hBl : B.length ≤ 1099511627776 := by omega
            clear hx hy hSr hSn hxy hlast hal hbl hkL hOk
            go_wp2_with fail
            refine hPa.mono ?_
            rintro e w3 ⟨va3, rfl, hA3, ht⟩
            have hT := Tu.of_tn ht
            have hB3 := hT.heap hB hd
            have hO3 := hT.row hO hda
            have hd3 := hT.dj hd fun q hq => (hB.in_ q hq).2
            have hda3 := hT.dj hda fun q hq => (hO.in_ q hq).2
            have hb3 := hbr.trans (ht.below hA)
            clear hPa hA hB hO hT ht hbr hd hda
            have bx := (Below.refl w3.heap.size w3).alloc (Nat.le_refl _) (.cells #[.int .i64 x1, .int .i64 x2] 34)
            have hxb := heap_alloc_new w3 (.cells #[.int .i64 x1, .int .i64 x2] 34)
            go_upto_region 16 with fail
            refine wp_named fun X3 hX3 => ?_
            rw [← hX3] at bx hxb
            have hs3 : X3.heap.size = w3.heap.size + 1 := by rw [hX3]; simp
            clear hX3
            have hA4 := hA3.below bx
            have hB4 := hB3.below bx
            have hO4 := hO3.below bx
            have hb4 := hb3.trans (bx.mono hb3.size)
            have hg3 := fun q hq => (hB3.in_ q hq).2
            clear hA3 hB3 hO3 hb3 bx
            have hPb4 := hPb X3 hB4 hBl
            go_wp2_with fail
            refine hPb4.mono ?_
            rintro e w5 ⟨vb5, rfl, hB5, ht⟩
            have hT := Tu.of_tn ht
            have hA5 := hT.heap hA4 hd3.symm
            have hO5 := hT.row hO4 hdb
            have hd5 := (hT.dj hd3.symm fun q hq => (hA4.in_ q hq).2).symm
            have hdb5 := hT.dj hdb fun q hq => (hO4.in_ q hq).2
            have hb5 := hb4.trans (ht.below hB4)
            have hx5 := (hT.block w3.heap.size (by omega) (fun e => by have := hg3 _ e; omega)).trans hxb
            have hs5 := hT.size
            clear hPb hPb4 hA4 hB4 hO4 hT ht hb4 hd3 hdb hg3 hxb
            have by5 := (Below.refl w5.heap.size w5).alloc (Nat.le_refl _) (.cells #[.int .i64 y1, .int .i64 y2] 34)
            have hyb := heap_alloc_new w5 (.cells #[.int .i64 y1, .int .i64 y2] 34)
            go_upto_region 17 with fail
            refine wp_named fun X5 hX5 => ?_
            rw [← hX5] at by5 hyb
            have hs6 : X5.heap.size = w5.heap.size + 1 := by rw [hX5]; simp
            clear hX5
            have hA6 := hA5.below by5
            have hB6 := hB5.below by5
            have hO6 := hO5.below by5
            have hx6 := (by5.block w3.heap.size (by omega)).trans hx5
            have hb6 := hb5.trans (by5.mono hb5.size)
            clear hA5 hB5 hO5 hx5 hb5 by5
            have x0 : X5.cell? ⟨w3.heap.size, 0, none⟩ = some (.int .i64 x1) := by rw [cell_of_row X5 _ 0 _ _ _ hx6]; rfl
            have x0' : X5.cell? ⟨w3.heap.size, 1, none⟩ = some (.int .i64 x2) := by rw [cell_of_row X5 _ 1 _ _ _ hx6]; rfl
            have y0 : X5.cell? ⟨w5.heap.size, 0, none⟩ = some (.int .i64 y1) := by rw [cell_of_row X5 _ 0 _ _ _ hyb]; rfl
            have hqe : ((x1 : Int) != y1) = false := by rw [HXY.out]; simp
            cases i with
            | zero =>
              have HOL : Hid (O.length = 0) := hOl
              clear hOl
              rw [show (((0 : Nat) : Int)) = 0 from rfl]
              have k0 := cell_regrown x0
              have k1 := cell_regrown y0
              go_wp2_with fail
              refine wp_region_quiet_below (by kernel_rfl) (by kernel_rfl) ?_
              repeat (go_big_quiet_step (fail))
              refine wpQuiet_nil ?_
              intro W6 hw'
              have hb56 : Below X5.heap.size X5 W6 := by
                obtain ⟨⟨dq, osq⟩, rfl⟩ := hw'
                exact below_regrown _ _ _
              have hA6 := hA6.below hb56
              have hB6 := hB6.below hb56
              have hO6 := hO6.below hb56
              have hb6 := hb6.trans (hb56.mono hb6.size)
              have x0 := (hb56.cell (p := ⟨w3.heap.size, 0, none⟩) (by show w3.heap.size < _; omega)).trans x0
              have x0' := (hb56.cell (p := ⟨w3.heap.size, 1, none⟩) (by show w3.heap.size < _; omega)).trans x0'
              clear hw'
              clear k0 k1
              have hOl := HOL.out
              obtain ⟨W7, hW7⟩ : ∃ W7, W7 = W6.alloc (.cells #[.int .i64 x1, .int .i64 x2] 34) := ⟨_, rfl⟩
              have bW7 : Below W6.heap.size W6 W7 := by rw [hW7]; exact (Below.refl _ W6).alloc (Nat.le_refl _) _
              have hA7 := hA6.below bW7
              have hB7 := hB6.below bW7
              have hO7 := hO6.below bW7
              have hb7 := hb6.trans (bW7.mono hb6.size)
              obtain ⟨o8, w8, hr, hO8, hgr, hmv⟩ := run_push W7 w.heap.size _ O (x1, x2) W6.heap.size hO7 (by rw [hW7]; exact heap_alloc_new W6 _) (Nat.le_trans hb7.size (Nat.le_refl _)) (by omega)
              have hT := Tu.of_append hgr hmv
              have hA8 := hT.heap hA7 hda3.symm
              have hB8 := hT.heap hB7 hdb5.symm
              have hda8 := (hT.dj hda3.symm fun q hq => (hA7.in_ q hq).2).symm
              have hdb8 := (hT.dj hdb5.symm fun q hq => (hB7.in_ q hq).2).symm
              have hb8 := hb7.trans (hT.below (fun q hq => (hO7.in_ q hq).1) (Nat.le_of_lt (Nat.lt_of_le_of_lt hA7.low hA7.lt)))
              rw [hW7] at hr
              clear hW7 bW7 hA7 hB7 hO7 hb7 hgr hmv hT hA6 hB6 hO6 hb6 hda3 hdb5
              go_wp2_with (at_builtin; refine wpList_append_run rfl (.tmp 83) (.tmp 85) 30 30 rfl _ _ rfl rfl _ w8 hr ?_)
              exact ⟨⟨0 + 1, va3, vb5, _, _, O ++ [(x1, x2)], by omega, by go_num, hA8, hB8, hO8, hd5, hda8, hdb8, HSN.out, by simp [hOl], hb8⟩, by simp only [intOf]; omega⟩
            | succ p =>
              obtain ⟨z, hz⟩ : ∃ z, O[p]? = some z := ⟨_, List.getElem?_eq_getElem (by omega)⟩
              have hzl : O.getLast? = some z := by rw [List.getLast?_eq_getElem?, hOl]; exact hz
              have hzx := HLA.out z hzl
              obtain ⟨bo, qo, rfl⟩ : ∃ bo qo, u6 = .slice (some ⟨bo, 0, none⟩) (p + 1) qo := by
                rcases ownsRow_forms hO6 with ⟨rfl, h0⟩ | ⟨bo, qo, rfl⟩
                · omega
                · exact ⟨bo, qo, by rw [hOl]⟩
              have hZ := hO6.at' hz
              obtain ⟨z1, z2⟩ := z
              obtain ⟨hZ1, hZ2⟩ := hZ
              have hd9 : decide (x1 < z1) = false := decide_eq_false (by
                have : z1 ≤ x1 := hzx
                omega)
              have i0 : 0 ≤ (p : Int) ∧ (p : Int) < ((p + 1 : Nat) : Int) := by omega
              have i1 : (((p + 1 : Nat) : Int)) - 1 = (p : Int) := by omega
              have hg0 : decide ((0 : Int) < ((p + 1 : Nat) : Int)) = true := decide_eq_true (by omega)
              dsimp only at hZ1
              have HOL : Hid (O.length = p + 1) := hOl
              clear hOl hz hzl hzx hZ2
              have k0 := cell_regrown x0
              have k1 := cell_regrown y0
              have k2 := cell_regrown hZ1
              go_wp2_with fail
              refine wp_region_quiet_below (by kernel_rfl) (by kernel_rfl) ?_
              repeat (go_big_quiet_step (fail))
              refine wpQuiet_nil ?_
              intro W6 hw'
              have hb56 : Below X5.heap.size X5 W6 := by
                obtain ⟨⟨dq, osq⟩, rfl⟩ := hw'
                exact below_regrown _ _ _
              have hA6 := hA6.below hb56
              have hB6 := hB6.below hb56
              have hO6 := hO6.below hb56
              have hb6 := hb6.trans (hb56.mono hb6.size)
              have x0 := (hb56.cell (p := ⟨w3.heap.size, 0, none⟩) (by show w3.heap.size < _; omega)).trans x0
              have x0' := (hb56.cell (p := ⟨w3.heap.size, 1, none⟩) (by show w3.heap.size < _; omega)).trans x0'
              clear hw'
              clear k0 k1 k2
              have hOl := HOL.out
              obtain ⟨W7, hW7⟩ : ∃ W7, W7 = W6.alloc (.cells #[.int .i64 x1, .int .i64 x2] 34) := ⟨_, rfl⟩
              have bW7 : Below W6.heap.size W6 W7 := by rw [hW7]; exact (Below.refl _ W6).alloc (Nat.le_refl _) _
              have hA7 := hA6.below bW7
              have hB7 := hB6.below bW7
              have hO7 := hO6.below bW7
              have hb7 := hb6.trans (bW7.mono hb6.size)
              obtain ⟨o8, w8, hr, hO8, hgr, hmv⟩ := run_push W7 w.heap.size _ O (x1, x2) W6.heap.size hO7 (by rw [hW7]; exact heap_alloc_new W6 _) (Nat.le_trans hb7.size (Nat.le_refl _)) (by omega)
              have hT := Tu.of_append hgr hmv
              have hA8 := hT.heap hA7 hda3.symm
              have hB8 := hT.heap hB7 hdb5.symm
              have hda8 := (hT.dj hda3.symm fun q hq => (hA7.in_ q hq).2).symm
              have hdb8 := (hT.dj hdb5.symm fun q hq => (hB7.in_ q hq).2).symm
              have hb8 := hb7.trans (hT.below (fun q hq => (hO7.in_ q hq).1) (Nat.le_of_lt (Nat.lt_of_le_of_lt hA7.low hA7.lt)))
              rw [hW7] at hr
              clear hW7 bW7 hA7 hB7 hO7 hb7 hgr hmv hT hA6 hB6 hO6 hb6 hda3 hdb5
              go_wp2_with (at_builtin; refine wpList_append_run rfl (.tmp 83) (.tmp 85) 30 30 rfl _ _ rfl rfl _ w8 hr ?_)
              exact ⟨⟨p + 1 + 1, va3, vb5, _, _, O ++ [(x1, x2)], by omega, by go_num, hA8, hB8, hO8, hd5, hda8, hdb8, HSN.out, by simp [hOl], hb8⟩, by simp only [intOf]; omega⟩
          · have hik : i = k := by omega
            subst hik
            have hal : (O ++ A).length = L.length := hSr.perm.length_eq
            have hbl : (A.map keyE).length = (B.map keyE).length := hSr.keys.length_eq
            simp only [List.length_append, List.length_map] at hal hbl
            have hkL := HN.out
            have hA0 : A = [] := List.length_eq_zero_iff.1 (by omega)
            have hB0 : B = [] := List.length_eq_zero_iff.1 (by omega)
            subst hA0
            subst hB0
            have hOL : O.Perm L := by have := hSr.perm; rwa [List.append_nil] at this
            obtain ⟨ao, co, rfl⟩ : ∃ ao co, u6 = .slice ao O.length co := by
              rcases ownsRow_forms hO with ⟨rfl, h0⟩ | ⟨b, q, rfl⟩
              · exact ⟨none, 0, by rw [h0]⟩
              · exact ⟨_, _, rfl⟩
            have hsO := hO.sps
            clear hal hbl hSr hd hda hdb hO
            obtain ⟨V, hV⟩ : ∃ V, V = wr := ⟨_, rfl⟩
            subst hV
            go_wp2_with fail
            go_loopw [12] (fun u wr => ∃ q : Nat, q ≤ i ∧ u = .int .i64 (q : Nat) ∧ Below V.heap.size V wr) (fun u _ => i - (intOf u).toNat)
            case atStart => exact ⟨0, Nat.zero_le _, rfl, Below.refl _ _⟩
            case round =>
              obtain ⟨q, hq, rfl, hbq⟩ := hrel
              by_cases hlt : q < i
              · have hql : q < L.length := by omega
                obtain ⟨x, hx⟩ : ∃ x, L[q]? = some x := ⟨_, List.getElem?_eq_getElem hql⟩
                have hbw := hbr.trans (hbq.mono hbr.size)
                have HC1 := fun d os => count_any ao co O x (grow (redrawn wr d) os) (by omega) ((hsO.below hbq).below (below_regrown wr d os))
                have hsl := hsL.below hbw
                have HC2 := fun d os => count_any a cap L x (grow (redrawn wr d) os) (by omega) (hsl.below (below_regrown wr d os))
                rw [countF_perm hOL x] at HC1
                rw [← hkL] at HC2
                obtain ⟨c, hc⟩ : ∃ c, c = countF L x := ⟨_, rfl⟩
                rw [← hc] at HC1 HC2
                obtain ⟨o, ho⟩ : ∃ o, o = O.length := ⟨_, rfl⟩
                rw [← ho] at HC1 ⊢
                rcases hsL with h0 | ⟨ab, aof, rfl, hcl⟩
                · rw [h0] at hql; simp at hql
                obtain ⟨c0, c1⟩ := (hcl q x hx).below hbw
                have k0 := cell_regrown c0
                have k1 := cell_regrown c1
                have i0 : 0 ≤ (q : Int) ∧ (q : Int) < (i : Int) := by omega
                have hqe : ((c : Int) != (c : Int)) = false := by simp
                unfold valE at HC1 HC2
                clear hcl hx hc hsl ho c0 c1 hA hB hkL hOl hsO
                go_wp2_with fail
                refine wp_region_quiet_below (by kernel_rfl) (by kernel_rfl) ?_
                repeat (go_big_quiet_step (fail))
                go_big_quiet_step ((go_at_call 22; exact Calls.regrown_of (HC1 _ _)))
                repeat (go_big_quiet_step (fail))
                go_big_quiet_step ((go_at_call 22; exact Calls.regrown_of (HC2 _ _)))
                repeat (go_big_quiet_step (fail))
                refine wpQuiet_nil ?_
                intro W6 hw'
                have hb56 : Below wr.heap.size wr W6 := by
                  obtain ⟨⟨dq, osq⟩, rfl⟩ := hw'
                  exact below_regrown _ _ _
                have hb6 := hbq.trans (hb56.mono hbq.size)
                clear hw' HC1 HC2 k0 k1
                go_wp2_with fail
                exact ⟨⟨q + 1, by omega, by go_num, hb6⟩, by simp only [intOf]; omega⟩
              · have hqi : q = i := by omega
                subst hqi
                have hA9 := hA.below hbq
                have hB9 := hB.below hbq
                have hLa := len_any _ ga va _ wr hA9
                have hLb := len_any _ gb vb _ wr hB9
                rw [List.length_nil] at hLa hLb
                have hb9 := hbr.trans (hbq.mono hbr.size)
                clear hkL hOl hsO
                go_wp2_with fail
                refine hLa.mono ?_
                rintro e w3 ⟨rfl, hw3⟩
                rw [hw3]
                clear hw3 w3 hLa
                go_wp2_with fail
                refine hLb.mono ?_
                rintro e w3 ⟨rfl, hw3⟩
                rw [hw3]
                clear hw3 w3 hLb
                go_wp2_with fail
                refine (HI.known_any wr).mono ?_
                rintro e w4 ⟨rfl, hb4⟩
                go_wp2_with fail
                go_ret
                exact ⟨rfl, hb9.trans (hb4.mono hb9.size)⟩
end Go.Proofs.Ytmfbeelnhihlaaa.HP
