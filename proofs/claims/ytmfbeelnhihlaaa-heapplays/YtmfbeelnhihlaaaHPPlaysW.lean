/- tesseralaw8.HeapPlays: the walk. -/
import Derived.Test.YtmfbeelnhihlaaaHPPlays
namespace Go.Proofs.Ytmfbeelnhihlaaa.HP
open Go.RowKit Go.Joins Go.Sort
set_option linter.unusedVariables false
set_option linter.unusedSimpArgs false
set_option maxRecDepth 100000
/-- What each turn keeps: the heap's things and the law's own. -/
structure Trn (base g : Nat) (m : Nat) (w : World) (u : Value) (v : Value) (L M : List El) : Prop where
  a : HeapAt w base g v L
  r : RowE w base u M
  d : Dj (hS g v) (vS u)
  p : Ply L M
  len : M.length ≤ m
theorem Trn.below {base g m : Nat} {w w' : World} {u v : Value} {L M : List El} (h : Trn base g m w u v L M) (hb : Below w.heap.size w w') : Trn base g m w' u v L M :=
  ⟨h.a.below hb, h.r.below hb, h.d, h.p, h.len⟩
theorem INS.at_ {w : World} {a : Option Addr} {l : List Int} (h : INS w a l) {i : Nat} {r : Int} (hr : l[i]? = some r) : ∃ b off, a = some ⟨b, off, none⟩ ∧ w.cell? ⟨b, off + i, none⟩ = some (.int .i64 r) := by
  rcases h with rfl | ⟨b, off, rfl, hc⟩
  · simp at hr
  · exact ⟨b, off, rfl, hc i r hr⟩
theorem INS.below {w w' : World} {a : Option Addr} {l : List Int} (h : INS w a l) (hb : Below w.heap.size w w') : INS w' a l := by
  rcases h with h | ⟨b, off, rfl, hc⟩
  · exact .inl h
  · exact .inr ⟨b, off, rfl, fun i r hr => (hb.cell (World.block_lt_of_cell? w _ (hc i r hr))).trans (hc i r hr)⟩
theorem ply_nil : Ply (popF keyE []) [] := ⟨popF_heap keyE (L := []) (fun i _ hi => by simp at hi), List.Perm.refl _⟩
set_option maxHeartbeats 4000000 in
theorem plays_walk (a : Option Addr) (cap : Nat) (l : List El) (a1 : Option Addr) (cap1 : Nat) (sc : List Int) (w : World) (hlen : l.length ≤ 9223372036854775807) (hcap : l.length ≤ cap) (hsp : SPS w a l)
    (hsl : sc.length ≤ 9223372036854775807) (hin : INS w a1 sc) (hrg : ∀ r ∈ sc, -9223372036854775808 ≤ r ∧ r ≤ 9223372036854775807) :
    Calls Try.prog 4 #[.slice a l.length cap, .slice a1 sc.length cap1] w fun e w' => e = .returned (.bool true) ∧ Below w.heap.size w w' := by
  obtain ⟨n0, hn0⟩ : ∃ n0, n0 = l.length := ⟨_, rfl⟩
  have HN0 : Hid (n0 = l.length) := hn0
  rw [← hn0] at hlen hcap ⊢
  clear hn0
  obtain ⟨m, hm⟩ : ∃ m, m = sc.length := ⟨_, rfl⟩
  have HM : Hid (m = sc.length) := hm
  rw [← hm] at hsl ⊢
  clear hm
  go_enter Try.func4, Try.ntmps4
  go_upto_if 18 with fail
  go_cut [0] (fun v wx => ∃ L : List El, L.length ≤ 60 ∧ v = .slice a L.length cap ∧ SPS w a L ∧ wx = w)
  case first =>
    by_cases hbig : 60 < n0
    · have d1 : decide ((60 : Int) < (n0 : Int)) = true := decide_eq_true (by omega)
      have d2 : (60 : Int) ≤ (cap : Int) := by omega
      go_wp2_with fail
      go_meet
      exact ⟨l.take 60, by simp; omega, by rw [show (l.take 60).length = 60 by simp; rw [← HN0.out]; omega], hsp.take 60, rfl⟩
    · have d1 : decide (60 < n0) = false := decide_eq_false hbig
      go_wp2_with fail
      go_meet
      exact ⟨l, by rw [← HN0.out]; omega, by rw [HN0.out], hsp, rfl⟩
  case rest =>
    obtain ⟨F, hF, rfl, hsF, hwc⟩ := hcut
    rw [hwc]
    clear hwc wc hsp HN0 hlen hcap n0 l
    have HR := roomy_any a cap F (-7, -7) w (by omega) hsF
    unfold spv at HR
    dsimp only at HR
    obtain ⟨n, hn⟩ : ∃ n, n = F.length := ⟨_, rfl⟩
    have HN : Hid (n = F.length) := hn
    rw [← hn] at HR hF ⊢
    clear hn
    go_wp2_with fail
    refine HR.mono ?_
    rintro e w1 ⟨fg, hfg, rfl, b1, hfull⟩
    clear HR
    have HO := of_any (some ⟨fg, 0, none⟩) (n + 80) F w1 (by rw [← HN.out]; omega) (SPS.of_block hfull)
    rw [← HN.out] at HO
    unfold lessV at HO
    have d1 : (n : Int) ≤ ((n + 80 : Nat) : Int) := by omega
    go_wp2_with fail
    refine HO.mono ?_
    rintro e w2 ⟨g, v0, rfl, hA, b2⟩
    clear HO
    have B2 := b1.trans (b2.mono b1.size)
    obtain ⟨u0, w3, hr, hU, b3⟩ := run_list w2 a cap F (by rw [← HN.out]; omega) (hsF.below B2)
    rw [← HN.out] at hr
    have hs12 := b2.size
    have hT3 : Trn w1.heap.size g (n + 1) w3 u0 v0 (ofF keyE F) F := ⟨hA.below b3, ownsRow_le hU hs12, fun k h1 h2 => by
      have := hA.in_ k h1
      have := hU.in_ k h2
      omega, ⟨ofF_heap keyE F, ofF_perm keyE F⟩, by rw [← HN.out]; omega⟩
    have b23 := b2.trans (b3.mono hs12)
    clear hU hA b2 b3 hs12 B2
    go_wp2_with (at_builtin; refine wpList_append_run rfl (.tmp 31) (.tmp 32) 30 30 rfl _ _ rfl rfl _ w3 hr ?_)
    clear hr
    go_loopw [7, 8] (fun u i wr => ∃ (k : Nat) (v : Value) (L M : List El), k ≤ m ∧ k ≤ 200 ∧ i = .int .i64 (k : Nat) ∧ Trn w1.heap.size g (n + 1 + k) wr u v L M ∧ Below w1.heap.size w1 wr) (fun _ i _ => m - (intOf i).toNat)
    case atStart => exact ⟨0, v0, _, F, Nat.zero_le _, by omega, rfl, hT3, b23⟩
    case round =>
      clear hT3 b23
      obtain ⟨k, v, L, M, hk, hk2, rfl, hT, hbr⟩ := hrel
      by_cases hkm : k < m
      · by_cases hk200 : k < 200
        · have hkl : k < sc.length := by rw [← HM.out]; exact hkm
          obtain ⟨r, hr⟩ : ∃ r, sc[k]? = some r := ⟨_, List.getElem?_eq_getElem hkl⟩
          have hrr := hrg r (List.mem_of_getElem? hr)
          have hbw := b1.trans (hbr.mono b1.size)
          obtain ⟨bs, os, rfl, hcs0⟩ := hin.at_ hr
          have hbs : bs < w.heap.size := World.block_lt_of_cell? w _ hcs0
          have hcs := (hbw.cell (p := ⟨bs, os + k, none⟩) hbs).trans hcs0
          have i0 : 0 ≤ (k : Int) ∧ (k : Int) < (m : Int) := by omega
          have d2 : decide ((k : Int) < 200) = true := decide_eq_true (by omega)
          have HRR : Hid (-9223372036854775808 ≤ r ∧ r ≤ 9223372036854775807) := hrr
          clear hr hkl hrr
          obtain ⟨V, hV⟩ : ∃ V, V = wr := ⟨_, rfl⟩
          subst hV
          go_upto_if 48 with fail
          go_cut [7] (fun u2 wx => ∃ (v2 : Value) (L2 M2 : List El), Trn w1.heap.size g (n + 1 + k + 1) wx u2 v2 L2 M2 ∧ Below w1.heap.size V wx)
          case first =>
            by_cases hr0 : 0 ≤ r
            · have d3 : decide ((0 : Int) ≤ r) = true := decide_eq_true hr0
              obtain ⟨q, hq⟩ : ∃ q, Int.tmod r 9 = q := ⟨_, rfl⟩
              have hqb : -9 < q ∧ q < 9 := by
                rw [← hq]
                exact ⟨Int.lt_tmod_of_pos _ (by omega), Int.tmod_lt_of_pos _ (by omega)⟩
              obtain ⟨hq1, hq2⟩ := hqb
              go_upto_region 13 with fail
              refine wp_named fun X1 hX1 => ?_
              have bx : Below V.heap.size V X1 := by rw [hX1]; exact (Below.refl _ _).alloc (Nat.le_refl _) _
              have hxb : X1.heap[V.heap.size]? = some (.cells #[.int .i64 q, .int .i64 (k : Nat)] 34 (0, 0)) := by rw [hX1]; exact heap_alloc_new V _
              have hs1 : X1.heap.size = V.heap.size + 1 := by rw [hX1]; simp
              clear hX1 hq
              have hT1 := hT.below bx
              have x0 : X1.cell? ⟨V.heap.size, 0, none⟩ = some (.int .i64 q) := by rw [cell_of_row X1 _ 0 _ _ _ hxb]; rfl
              have x1 : X1.cell? ⟨V.heap.size, 1, none⟩ = some (.int .i64 (k : Nat)) := by rw [cell_of_row X1 _ 1 _ _ _ hxb]; rfl
              have hll : L.length = M.length := hT.p.p.length_eq
              have hmlen := hT.len
              have hP := push_any w1.heap.size g v L (q, (k : Int)) X1 hT1.a (by omega)
              unfold valE at hP
              dsimp only at hP
              go_wp2_with fail
              refine hP.mono ?_
              rintro e w4 ⟨v4, rfl, hA4, ht⟩
              have hTu := Tu.of_tn ht
              have hr4 := hTu.row hT1.r hT1.d
              have hd4 := hTu.dj hT1.d fun z hz => (hT1.r.in_ z hz).2
              have hx4 := (hTu.block V.heap.size (by omega) (fun e => by have := (hT.a.in_ _ e).2; omega)).trans hxb
              have hb4 : Below w1.heap.size V w4 := (bx.mono hbr.size).trans (ht.below hT1.a)
              have hs4 := hTu.size
              clear hP ht hTu x0 x1 hxb
              have x0 : w4.cell? ⟨V.heap.size, 0, none⟩ = some (.int .i64 q) := by rw [cell_of_row w4 _ 0 _ _ _ hx4]; rfl
              have x1 : w4.cell? ⟨V.heap.size, 1, none⟩ = some (.int .i64 (k : Nat)) := by rw [cell_of_row w4 _ 1 _ _ _ hx4]; rfl
              obtain ⟨W5, hW5⟩ : ∃ W5, W5 = w4.alloc (.cells #[.int .i64 q, .int .i64 (k : Nat)] 34) := ⟨_, rfl⟩
              have b5 : Below w4.heap.size w4 W5 := by rw [hW5]; exact (Below.refl _ w4).alloc (Nat.le_refl _) _
              have hsz := hbr.size
              obtain ⟨u6, w6, hra, hr6, hgr, hmv⟩ := run_push W5 w1.heap.size _ M (q, (k : Int)) w4.heap.size (hr4.below b5) (by rw [hW5]; exact heap_alloc_new w4 _) (by have := b5.size; omega) (by omega)
              have hTu := Tu.of_append hgr hmv
              have hA5 := hA4.below b5
              have hA6 := hTu.heap hA5 hd4.symm
              have hd6 := (hTu.dj hd4.symm fun z hz => (hA5.in_ z hz).2).symm
              have hb6 : Below w1.heap.size V w6 := (hb4.trans (b5.mono (by omega))).trans (hTu.below (fun z hz => ((hr4.below b5).in_ z hz).1) (by have := b5.size; omega))
              rw [hW5] at hra
              have hT6 : Trn w1.heap.size g (n + 1 + k + 1) w6 u6 v4 (pushF keyE L (q, (k : Int))) (M ++ [(q, (k : Int))]) := ⟨hA6, hr6, hd6, hT.p.push _, by simp; omega⟩
              clear hW5 b5 hgr hmv hTu hA5 hA6 hd6 hr6 hA4 hr4 hd4 hb4 hT1 hT hx4
              go_wp2_with (at_builtin; refine wpList_append_run rfl (.tmp 59) (.tmp 61) 30 30 rfl _ _ rfl rfl _ w6 hra ?_)
              go_meet
              exact ⟨v4, _, _, hT6, hb6⟩
            · have d3 : decide ((0 : Int) ≤ r) = false := decide_eq_false hr0
              go_wp2_with fail
              go_meet
              exact ⟨v, L, M, ⟨hT.a, hT.r, hT.d, hT.p, by have := hT.len; omega⟩, Below.refl _ _⟩
          case rest =>
            obtain ⟨v2, L2, M2, hT2, hb2⟩ := hcut
            have hbV : Below w1.heap.size w1 wc := hbr.trans hb2
            have hbw2 : Below w.heap.size w wc := b1.trans (hbV.mono b1.size)
            clear hT hbr hcs hb2 hbw
            have hLe := least_any w1.heap.size g v2 L2 wc hT2.a
            have hll : L2.length = M2.length := hT2.p.p.length_eq
            have hml := hT2.len
            obtain ⟨au, cu, hu⟩ : ∃ au cu, u7 = .slice au M2.length cu := by
              rcases ownsRow_forms hT2.r with ⟨h1, h0⟩ | ⟨b, q, h1⟩
              · exact ⟨none, 0, by rw [h1, h0]⟩
              · exact ⟨_, _, h1⟩
            subst hu
            cases L2 with
            | nil =>
              have hM0 : M2 = [] := List.length_eq_zero_iff.1 (by rw [← hll]; rfl)
              subst hM0
              rw [show headR ([] : List El) = .tuple #[.agg #[.int .i64 0, .int .i64 0], .bool false] from rfl] at hLe
              simp only [List.length_nil] at hT2 ⊢
              go_wp2_with fail
              refine hLe.mono ?_
              rintro e w4 ⟨rfl, hb4⟩
              clear hLe
              go_upto_region 16 with fail
              refine wp_named fun X5 hX5 => ?_
              have b5 : Below wc.heap.size wc X5 := by rw [hX5]; exact hb4.alloc hb4.size _
              have hlb : X5.heap[w4.heap.size]? = some (.cells #[.int .i64 0, .int .i64 0] 34 (0, 0)) := by rw [hX5]; exact heap_alloc_new w4 _
              have hs5 : X5.heap.size = w4.heap.size + 1 := by rw [hX5]; simp
              have hsz4 := hb4.size
              clear hX5 hb4
              have hT5 := hT2.below b5
              have hbV5 := hbV.trans (b5.mono hbV.size)
              have hc5 := ((hbw2.trans (b5.mono hbw2.size)).cell (p := ⟨bs, os + k, none⟩) hbs).trans hcs0
              have hLn := len_any w1.heap.size g v2 [] X5 hT5.a
              rw [List.length_nil] at hLn
              have hin2 := fun z hz => Nat.lt_of_lt_of_le (hT2.a.in_ z hz).2 hsz4
              clear hT2 b5 hbV hbw2
              go_wp2_with fail
              refine hLn.mono ?_
              rintro e w6 ⟨rfl, hw6⟩
              rw [hw6]
              clear hw6 w6 hLn
              by_cases hr0 : 0 ≤ r
              · have d3 : decide ((0 : Int) ≤ r) = true := decide_eq_true hr0
                go_wp2_with fail
                exact ⟨⟨k + 1, v2, [], [], by omega, by omega, by go_num, ⟨hT5.a, hT5.r, hT5.d, hT5.p, by simp⟩, hbV5⟩, by simp only [intOf]; omega⟩
              · have d3 : decide ((0 : Int) ≤ r) = false := decide_eq_false hr0
                have hP := pop_any w1.heap.size g v2 [] X5 hT5.a (by simp)
                rw [show headR ([] : List El) = .tuple #[.agg #[.int .i64 0, .int .i64 0], .bool false] from rfl] at hP
                go_wp2_with fail
                refine hP.mono ?_
                rintro e w7 ⟨v7, rfl, hA7, ht⟩
                clear hP
                have hTu := Tu.of_tn ht
                have hr7 := hTu.row hT5.r hT5.d
                have hd7 := hTu.dj hT5.d fun z hz => (hT5.r.in_ z hz).2
                have hl7 := (hTu.block w4.heap.size (by omega) (fun e => by have := hin2 _ e; omega)).trans hlb
                have hbV7 := hbV5.trans (ht.below hT5.a)
                have hs7 := hTu.size
                have hbx := (Below.refl w7.heap.size w7).alloc (Nat.le_refl _) (.cells #[.int .i64 0, .int .i64 0] 34)
                have hxb := heap_alloc_new w7 (.cells #[.int .i64 0, .int .i64 0] 34)
                go_upto_region 20 with fail
                refine wp_named fun X8 hX8 => ?_
                rw [← hX8] at hbx hxb
                clear hX8
                have hl8 := (hbx.block w4.heap.size (by omega)).trans hl7
                have hA8 := hA7.below hbx
                have hr8 := hr7.below hbx
                have hbV8 := hbV7.trans (hbx.mono hbV7.size)
                have x0 : X8.cell? ⟨w7.heap.size, 0, none⟩ = some (.int .i64 0) := by rw [cell_of_row X8 _ 0 _ _ _ hxb]; rfl
                have x1 : X8.cell? ⟨w7.heap.size, 1, none⟩ = some (.int .i64 0) := by rw [cell_of_row X8 _ 1 _ _ _ hxb]; rfl
                have y0 : X8.cell? ⟨w4.heap.size, 0, none⟩ = some (.int .i64 0) := by rw [cell_of_row X8 _ 0 _ _ _ hl8]; rfl
                have y1 : X8.cell? ⟨w4.heap.size, 1, none⟩ = some (.int .i64 0) := by rw [cell_of_row X8 _ 1 _ _ _ hl8]; rfl
                have HE := eqIn_sp (0, 0) (0, 0) true (spEq_self _)
                have HF := neq_sp (0, 0) (0, 0) false (by rw [spEq_self]; rfl)
                dsimp only at HE HF
                clear ht hTu hA7 hr7 hl7 hbV7 hbx hxb hl8 hT5 hlb hin2 hbV5
                go_wp2_with fail
                exact ⟨⟨k + 1, v7, popF keyE [], [], by omega, by omega, by go_num, ⟨hA8, hr8, hd7, ply_nil, by simp⟩, hbV8⟩, by simp only [intOf]; omega⟩
            | cons x T =>
              rw [show headR (x :: T) = .tuple #[valE x, .bool true] from rfl] at hLe
              unfold valE at hLe
              obtain ⟨q, hq⟩ : ∃ q, q = M2.length := ⟨_, rfl⟩
              have HQ : Hid (q = M2.length) := hq
              have hq0 : 0 < q := by rw [hq, ← hll]; simp
              have hqm : q ≤ 300 := by omega
              rw [← hq] at hT2 ⊢
              clear hml hq
              have hd0 : decide ((0 : Int) < (q : Int)) = true := decide_eq_true (by omega)
              have hqq : ((q : Int) != (q : Int)) = false := by simp
              go_wp2_with fail
              refine hLe.mono ?_
              rintro e w4 ⟨rfl, hb4⟩
              clear hLe
              go_upto_region 16 with fail
              refine wp_named fun X5 hX5 => ?_
              have b5 : Below wc.heap.size wc X5 := by rw [hX5]; exact hb4.alloc hb4.size _
              have hlb : X5.heap[w4.heap.size]? = some (.cells #[.int .i64 x.1, .int .i64 x.2] 34 (0, 0)) := by rw [hX5]; exact heap_alloc_new w4 _
              have hs5 : X5.heap.size = w4.heap.size + 1 := by rw [hX5]; simp
              have hsz4 := hb4.size
              clear hX5 hb4
              have hT5 := hT2.below b5
              have hbV5 := hbV.trans (b5.mono hbV.size)
              have hc5 := ((hbw2.trans (b5.mono hbw2.size)).cell (p := ⟨bs, os + k, none⟩) hbs).trans hcs0
              have hLn := len_any w1.heap.size g v2 (x :: T) X5 hT5.a
              rw [hll, ← HQ.out] at hLn
              have hin2 := fun z hz => Nat.lt_of_lt_of_le (hT2.a.in_ z hz).2 hsz4
              clear hT2 b5 hbV hbw2
              go_wp2_with fail
              refine hLn.mono ?_
              rintro e w6 ⟨rfl, hw6⟩
              rw [hw6]
              clear hw6 w6 hLn
              by_cases hr0 : 0 ≤ r
              · have d3 : decide ((0 : Int) ≤ r) = true := decide_eq_true hr0
                go_wp2_with fail
                exact ⟨⟨k + 1, v2, x :: T, M2, by omega, by omega, by go_num, ⟨hT5.a, hT5.r, hT5.d, hT5.p, hT5.len⟩, hbV5⟩, by simp only [intOf]; omega⟩
              · have d3 : decide ((0 : Int) ≤ r) = false := decide_eq_false hr0
                have hP := pop_any w1.heap.size g v2 (x :: T) X5 hT5.a (by rw [hll, ← HQ.out]; omega)
                rw [show headR (x :: T) = .tuple #[valE x, .bool true] from rfl] at hP
                unfold valE at hP
                obtain ⟨hmin, kk, hk1, hkk2, hkk3, hPly⟩ := hT5.p.pop (x := x) rfl
                obtain ⟨x1, x2⟩ := x
                dsimp only at hP hlb
                go_wp2_with fail
                refine hP.mono ?_
                rintro e w7 ⟨v7, rfl, hA7, ht⟩
                clear hP
                have hTu := Tu.of_tn ht
                have hr7 := hTu.row hT5.r hT5.d
                have hd7 := hTu.dj hT5.d fun z hz => (hT5.r.in_ z hz).2
                have hl7 := (hTu.block w4.heap.size (by omega) (fun e => by have := hin2 _ e; omega)).trans hlb
                have hbV7 := hbV5.trans (ht.below hT5.a)
                have hs7 := hTu.size
                have hlen5 := hT5.len
                have hbx := (Below.refl w7.heap.size w7).alloc (Nat.le_refl _) (.cells #[.int .i64 x1, .int .i64 x2] 34)
                have hxb := heap_alloc_new w7 (.cells #[.int .i64 x1, .int .i64 x2] 34)
                go_upto_region 20 with fail
                refine wp_named fun X8 hX8 => ?_
                rw [← hX8] at hbx hxb
                have hs8 : X8.heap.size = w7.heap.size + 1 := by rw [hX8]; simp
                clear hX8
                have hl8 := (hbx.block w4.heap.size (by omega)).trans hl7
                have hA8 := hA7.below hbx
                have hr8 := hr7.below hbx
                have hbV8 := hbV7.trans (hbx.mono hbV7.size)
                have e0 : X8.cell? ⟨w7.heap.size, 0, none⟩ = some (.int .i64 x1) := by rw [cell_of_row X8 _ 0 _ _ _ hxb]; rfl
                have e1 : X8.cell? ⟨w7.heap.size, 1, none⟩ = some (.int .i64 x2) := by rw [cell_of_row X8 _ 1 _ _ _ hxb]; rfl
                have y0 : X8.cell? ⟨w4.heap.size, 0, none⟩ = some (.int .i64 x1) := by rw [cell_of_row X8 _ 0 _ _ _ hl8]; rfl
                have y1 : X8.cell? ⟨w4.heap.size, 1, none⟩ = some (.int .i64 x2) := by rw [cell_of_row X8 _ 1 _ _ _ hl8]; rfl
                have E1 : Hid (X8.cell? ⟨w7.heap.size, 1, none⟩ = some (.int .i64 x2)) := e1
                have HE := eqIn_sp (x1, x2) (x1, x2) true (spEq_self _)
                have HF := neq_sp (x1, x2) (x1, x2) false (by rw [spEq_self]; rfl)
                dsimp only at HE HF
                have HK1 : Hid (lastIx M2 (x1, x2) M2.length = (kk : Int)) := hk1
                have HMIN : Hid (∀ y ∈ M2, x1 ≤ keyE y) := hmin
                have HPL : Hid (Ply (popF keyE ((x1, x2) :: T)) (cutAt M2 kk)) := hPly
                have HKK : Hid (kk < M2.length) := hkk2
                clear ht hTu hA7 hr7 hl7 hbV7 hbx hxb hl8 hT5 hlb hin2 hbV5 hk1 hkk2 hkk3 hPly hmin
                obtain ⟨gb, rfl⟩ : ∃ gb, au = some ⟨gb, 0, none⟩ := by
                  rcases ownsRow_forms hr8 with ⟨h1, h0⟩ | ⟨b', q', h1⟩
                  · have := HQ.out; omega
                  · cases h1; exact ⟨b', rfl⟩
                go_wp2_with fail
                go_loopw [14, 15] (fun lx jv wx => ∃ j : Nat, j ≤ q ∧ jv = .int .i64 (j : Nat) ∧ lx = .int .i64 (lastIx M2 (x1, x2) j) ∧ Below X8.heap.size X8 wx) (fun _ jv _ => q - (intOf jv).toNat)
                case atStart => exact ⟨0, Nat.zero_le _, rfl, rfl, Below.refl _ _⟩
                case round =>
                  obtain ⟨j, hj, rfl, rfl, hbx⟩ := hrel
                  clear e1 y0 y1 HE HF
                  by_cases hjq : j < q
                  · have hjl : j < M2.length := by rw [← HQ.out]; exact hjq
                    obtain ⟨y, hy⟩ : ∃ y, M2[j]? = some y := ⟨_, List.getElem?_eq_getElem hjl⟩
                    have hst := lastIx_step M2 (x1, x2) j hy
                    have hym := HMIN.out y (List.mem_of_getElem? hy)
                    obtain ⟨c0, c1⟩ := ElAt.below (hr8.at' hy) hbx
                    obtain ⟨v, hv⟩ : ∃ v, spEq y (x1, x2) = v := ⟨_, rfl⟩
                    rw [hv] at hst
                    have HE := eqIn_sp y (x1, x2) v hv
                    have HF := eql_sp y (x1, x2) v hv
                    have HST : Hid (lastIx M2 (x1, x2) (j + 1) = if v then (j : Int) else lastIx M2 (x1, x2) j) := hst
                    obtain ⟨z, hz⟩ : ∃ z, z = lastIx M2 (x1, x2) j := ⟨_, rfl⟩
                    have HZ : Hid (z = lastIx M2 (x1, x2) j) := hz
                    rw [← hz]
                    obtain ⟨p1, p2⟩ := y
                    have d5 : decide (p1 < x1) = false := decide_eq_false (by
                      have : x1 ≤ p1 := hym
                      omega)
                    have i5 : 0 ≤ (j : Int) ∧ (j : Int) < (q : Int) := by omega
                    have e0' := (hbx.cell (p := ⟨w7.heap.size, 0, none⟩) (by show w7.heap.size < _; omega)).trans e0
                    have e1' := (hbx.cell (p := ⟨w7.heap.size, 1, none⟩) (by show w7.heap.size < _; omega)).trans E1.out
                    dsimp only at c0 c1 HE HF
                    clear hst hz hym hy hjl hv e0
                    go_wp2_with fail
                    go_quiet (fail)
                    go_wp2_with fail
                    refine wp_named fun W9 hW9 => ?_
                    have c0' : W9.cell? ⟨gb, j * 2, none⟩ = some (.int .i64 p1) := by rw [hW9]; exact c0
                    have c1' : W9.cell? ⟨gb, j * 2 + 1, none⟩ = some (.int .i64 p2) := by rw [hW9]; exact c1
                    have e0'' : W9.cell? ⟨w7.heap.size, 0, none⟩ = some (.int .i64 x1) := by rw [hW9]; exact e0'
                    have e1'' : W9.cell? ⟨w7.heap.size, 1, none⟩ = some (.int .i64 x2) := by rw [hW9]; exact e1'
                    have hb9 : Below X8.heap.size X8 W9 := by rw [hW9]; exact below_drewN hbx nq
                    clear hW9 nq c0 c1 e0' e1' hbx
                    go_quiet (fail)
                    cases v with
                    | true =>
                      go_wp2_with fail
                      exact ⟨⟨j + 1, by omega, by go_num, by rw [HST.out]; rfl, below_drewN hb9 nq⟩, by simp only [intOf]; omega⟩
                    | false =>
                      go_wp2_with fail
                      exact ⟨⟨j + 1, by omega, by go_num, by rw [HST.out, HZ.out]; rfl, below_drewN hb9 nq⟩, by simp only [intOf]; omega⟩
                  · have hjq2 : j = q := by omega
                    subst hjq2
                    have hlk : lastIx M2 (x1, x2) j = (kk : Int) := by rw [HQ.out]; exact HK1.out
                    rw [hlk]
                    have hkq : kk < j := by rw [HQ.out]; exact HKK.out
                    clear hlk e0
                    have hr9 := hr8.below hbx
                    have hA9 := hA8.below hbx
                    have hbV9 := hbV8.trans (hbx.mono hbV8.size)
                    have hjc : j ≤ cu := by
                      rcases hr9.2 with ⟨h1, _⟩ | ⟨g', c', cur', h1, _, _, h3, _⟩
                      · cases h1
                      · cases h1; rw [HQ.out]; exact h3
                    have s1 : (kk : Int) ≤ (cu : Int) := by omega
                    have s2 : (kk : Int) + 1 ≤ (j : Int) := by omega
                    have s3 : ((kk : Int) < 0) = False := by simp
                    by_cases hck : cu = kk + 1
                    · obtain rfl : j = kk + 1 := by omega
                      obtain rfl : cu = kk + 1 := hck
                      go_wp2_with fail
                      refine wp_region_quiet_tail (C := fun w' => ∃ p : Regrown, w' = grow (redrawn wr p.d) p.os) 7 (by kernel_rfl) (by kernel_rfl) ⟨⟨_, #[]⟩, by rw [grow_empty]; rfl⟩ ?_
                      simp only [List.take_succ_cons, List.take_zero, List.drop_succ_cons, List.drop_zero]
                      repeat (go_big_quiet_step (fail))
                      refine wpQuiet_nil ?_
                      intro W9 hw'
                      have hb9 : Below wr.heap.size wr W9 := by
                        obtain ⟨⟨dq, osq⟩, rfl⟩ := hw'
                        exact below_regrown _ _ _
                      clear hw'
                      obtain ⟨w9, hra, hr10, hgr⟩ := run_cut W9 w1.heap.size gb (kk + 1) (kk + 1) M2 kk hkq (hr9.below hb9) 0 ⟨gb, 0, none⟩ (.inr rfl)
                      rw [Nat.sub_self, Nat.add_sub_cancel] at hra
                      rw [Nat.add_sub_cancel] at hr10
                      have hTu := Tu.of_append (u := .slice (some ⟨gb, 0, none⟩) (kk + 1) (kk + 1)) (u' := .slice (some ⟨gb, 0, none⟩) kk (kk + 1)) hgr (fun b hb => .inl hb)
                      have hA10 := hTu.heap (hA9.below hb9) hd7.symm
                      have hbV10 := (hbV9.trans (hb9.mono hbV9.size)).trans (hTu.below (base := w1.heap.size) (fun z hz => ((hr9.below hb9).in_ z hz).1) (Nat.le_trans hbV9.size hb9.size))
                      have hcl := cutAt_length (M := M2) (k := kk) (by rw [← HQ.out]; exact hkq)
                      clear hTu hgr hr9 hA9 hbV9 hb9
                      go_wp2_with (at_builtin; refine wpList_append_run rfl (.tmp 125) (.tmp 129) 30 30 rfl _ _ rfl rfl _ w9 hra ?_)
                      exact ⟨⟨k + 1, v7, popF keyE ((x1, x2) :: T), cutAt M2 kk, by omega, by omega, by go_num, ⟨hA10, hr10, hd7, HPL.out, by rw [hcl]; omega⟩, hbV10⟩, by simp only [intOf]; omega⟩
                    · have s4 : ((cu : Int) - ((kk : Int) + 1) == 0) = false := by simp; omega
                      go_wp2_with fail
                      refine wp_region_quiet_tail (C := fun w' => ∃ p : Regrown, w' = grow (redrawn wr p.d) p.os) 7 (by kernel_rfl) (by kernel_rfl) ⟨⟨_, #[]⟩, by rw [grow_empty]; rfl⟩ ?_
                      simp only [List.take_succ_cons, List.take_zero, List.drop_succ_cons, List.drop_zero]
                      repeat (go_big_quiet_step (fail))
                      refine wpQuiet_nil ?_
                      intro W9 hw'
                      have hb9 : Below wr.heap.size wr W9 := by
                        obtain ⟨⟨dq, osq⟩, rfl⟩ := hw'
                        exact below_regrown _ _ _
                      clear hw'
                      obtain ⟨w9, hra, hr10, hgr⟩ := run_cut W9 w1.heap.size gb j cu M2 kk hkq (hr9.below hb9) (cu - (kk + 1)) ⟨gb, (kk + 1) * 2, none⟩ (.inl rfl)
                      have hTu := Tu.of_append (u := .slice (some ⟨gb, 0, none⟩) j cu) (u' := .slice (some ⟨gb, 0, none⟩) (j - 1) cu) hgr (fun b hb => .inl hb)
                      have hA10 := hTu.heap (hA9.below hb9) hd7.symm
                      have hbV10 := (hbV9.trans (hb9.mono hbV9.size)).trans (hTu.below (base := w1.heap.size) (fun z hz => ((hr9.below hb9).in_ z hz).1) (Nat.le_trans hbV9.size hb9.size))
                      have hcl := cutAt_length (M := M2) (k := kk) (by rw [← HQ.out]; exact hkq)
                      clear hTu hgr hr9 hA9 hbV9 hb9
                      go_wp2_with (at_builtin; refine wpList_append_run rfl (.tmp 125) (.tmp 129) 30 30 rfl _ _ rfl rfl _ w9 hra ?_)
                      exact ⟨⟨k + 1, v7, popF keyE ((x1, x2) :: T), cutAt M2 kk, by omega, by omega, by go_num, ⟨hA10, hr10, hd7, HPL.out, by rw [hcl]; omega⟩, hbV10⟩, by simp only [intOf]; omega⟩
        · have d2 : decide (k < 200) = false := decide_eq_false hk200
          have hf9 := hfull.below hbr hfull.lt
          have hI := intact_any fg a cap F (-7, -7) wr (by rw [← HN.out]; omega) hf9 (hsF.below (b1.trans (hbr.mono b1.size)))
          rw [← HN.out] at hI
          unfold spv at hI
          dsimp only at hI
          have hb9 := b1.trans (hbr.mono b1.size)
          clear hT hf9
          go_wp2_with fail
          refine hI.mono ?_
          rintro e w8 ⟨rfl, hb8⟩
          clear hI
          go_wp2_with fail
          refine (HI.known_any w8).mono ?_
          rintro e w9 ⟨rfl, hb99⟩
          go_wp2_with fail
          go_ret
          exact ⟨rfl, (hb9.trans (hb8.mono hb9.size)).trans (hb99.mono (Nat.le_trans hb9.size hb8.size))⟩
      · have hkm2 : k = m := by omega
        subst hkm2
        have hf9 := hfull.below hbr hfull.lt
        have hI := intact_any fg a cap F (-7, -7) wr (by rw [← HN.out]; omega) hf9 (hsF.below (b1.trans (hbr.mono b1.size)))
        rw [← HN.out] at hI
        unfold spv at hI
        dsimp only at hI
        have hb9 := b1.trans (hbr.mono b1.size)
        clear hT hf9
        go_wp2_with fail
        refine hI.mono ?_
        rintro e w8 ⟨rfl, hb8⟩
        clear hI
        go_wp2_with fail
        refine (HI.known_any w8).mono ?_
        rintro e w9 ⟨rfl, hb99⟩
        go_wp2_with fail
        go_ret
        exact ⟨rfl, (hb9.trans (hb8.mono hb9.size)).trans (hb99.mono (Nat.le_trans hb9.size hb8.size))⟩
end Go.Proofs.Ytmfbeelnhihlaaa.HP
