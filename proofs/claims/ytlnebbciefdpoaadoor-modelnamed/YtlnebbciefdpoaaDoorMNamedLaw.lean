/- ModelNamed: the walk. -/
import Derived.Test.YtlnebbciefdpoaaDoorMNamedMem
import Derived.Test.YtlnebbciefdpoaaDoorRMono2
namespace Go.Proofs.YtlnebbciefdpoaaDoor
open Go.RowKit Go.Sort Go.Joins
set_option linter.unusedVariables false
set_option maxRecDepth 100000 in
set_option maxHeartbeats 4000000 in
theorem named_walk (aw am a b c sa : Option Addr) (cw cm ca cb cc sc : Nat) (ws : List ByteArray) (ms : List Mg) (A B C : List Sp) (sw : List Int) (l r : Int) (w : World) (hwf : MWf ms) (hl : W64 l) (hr : W64 r) (hn : ws.length ≤ 8796093022208 ∧ ms.length ≤ 5864062014805 ∧ A.length ≤ 17592186044416 ∧ B.length ≤ 17592186044416 ∧ C.length ≤ 17592186044416) (hsl : sw.length ≤ 9223372036854775807) (hW : WSP w aw ws) (hM : MSP w am ms) (hA : Lst w a ca A) (hB : Lst w b cb B) (hC : Lst w c cc C) (hS : INS w sa sw) (hG : GL w) :
    Calls Tryd.prog 7 #[.agg #[.slice aw ws.length cw, .slice am ms.length cm, .slice a A.length ca, .slice b B.length cb, .slice c C.length cc], .slice sa sw.length sc, .int .i64 l, .int .i64 r] w fun e w' => e = .returned (.bool true) ∧ Below w.heap.size w w' := by
  have hD := DBox.new w (.slice aw ws.length cw) (.slice am ms.length cm) (.slice a A.length ca) (.slice b B.length cb) (.slice c C.length cc)
  have hb0 := box_below w (.cells #[.slice aw ws.length cw, .slice am ms.length cm, .slice a A.length ca, .slice b B.length cb, .slice c C.length cc] 42)
  have HW : Hid (WSP w aw ws) := hW
  have HM : Hid (MSP w am ms) := hM
  have HA : Hid (Lst w a ca A) := hA
  have HB : Hid (Lst w b cb B) := hB
  have HC : Hid (Lst w c cc C) := hC
  have HS : Hid (INS w sa sw) := hS
  have HG : Hid (GL w) := hG
  clear hW hM hA hB hC hS hG
  have x0 := hD.c0
  have x1 := hD.c1
  have x2 := hD.c2
  have x3 := hD.c3
  have x4 := hD.c4
  go_enter Tryd.func7, Tryd.ntmps7
  go_wp2_with fail
  obtain ⟨Y, hY⟩ : ∃ Y, Y = w.alloc (.cells #[.slice aw ws.length cw, .slice am ms.length cm, .slice a A.length ca, .slice b B.length cb, .slice c C.length cc] 42) := ⟨_, rfl⟩
  rw [← hY] at hb0 hD ⊢
  clear hY x0 x1 x2 x3 x4
  obtain ⟨z, hz⟩ : ∃ z, z = w.heap.size := ⟨_, rfl⟩
  have HZ : Hid (z = w.heap.size) := hz
  rw [← hz] at hD ⊢
  clear hz
  refine (keepOf_any aw am a b c cw cm ca cb cc ws ms A B C Y hwf (by omega) (HW.out.below hb0) (HM.out.below hb0) (HA.out.below hb0) (HB.out.below hb0) (HC.out.below hb0) (HG.out.below hb0)).mono ?_
  rintro e w1 ⟨p, rfl, hp1, hp2, hb1⟩
  have B1 := hb0.trans (hb1.mono hb0.size)
  have hD1 := hD.below hb1 hD.lt
  cases hU : upB ws ms A B C with
  | false =>
    obtain rfl := hp2 hU
    have hG1 := HG.out.below B1
    clear hp1 hp2 hU hb1 hb0 hD hD1
    go_wp2_with fail
    refine (known_any w1 hG1).mono ?_
    rintro e w2 ⟨rfl, hb2⟩
    go_wp2_with fail
    go_ret
    exact ⟨rfl, B1.trans (hb2.mono B1.size)⟩
  | true =>
    obtain ⟨g, rfl, hMd⟩ := hp1 hU
    have hK := upB_ok hU
    have hf := upB_few hU
    have HK : Hid (MOk ws ms A B C) := hK
    have hw3 : ws.length ≤ 300 := by rw [hK.nm]; exact hf
    have hm3 := hf
    have HD1 : Hid (DBox w1 z _ _ _ _ _) := hD1
    have HMd : Hid (ModelAt w1 Y.heap.size g ws ms A B C) := hMd
    have c0 := hD1.c0
    have HB1 : Hid (Below w.heap.size w w1) := B1
    have hzw1 := hD1.lt
    clear hp1 hp2 hU hb1 hb0 hD hK hMd hn hD1 hf B1
    by_cases hn0 : ws.length = 0
    · have g0 : ((ws.length : Int) == 0) = true := by rw [hn0]; rfl
      have hG1 := HG.out.below HB1.out
      go_wp2_with fail
      refine (known_any w1 hG1).mono ?_
      rintro e w2 ⟨rfl, hb2⟩
      go_wp2_with fail
      go_ret
      exact ⟨rfl, HB1.out.trans (hb2.mono HB1.out.size)⟩
    · have g0 : ((ws.length : Int) == 0) = false := by rw [beq_eq_false_iff_ne]; omega
      obtain ⟨N, hN⟩ : ∃ N : Nat, N = 256 + ws.length := ⟨_, rfl⟩
      obtain ⟨T0, hT0⟩ : ∃ T0, T0 = List.replicate N (0 : Int) := ⟨_, rfl⟩
      obtain ⟨C0, hC0⟩ : ∃ C0, C0 = (T0.map fun x => Value.int .i64 x).toArray := ⟨_, rfl⟩
      have hmk : ∀ u : World, (Instr.makeSlice 60 (.int .i64 (256 + (ws.length : Int))) (.int .i64 (256 + (ws.length : Int)))).run Tryd.prog u = .ok (.slice (some ⟨u.heap.size, 0, none⟩) N N) (u.alloc (.cells C0 3)) := fun u => by
        have h := run_makeI u N (by omega)
        rw [← hT0, ← hC0] at h
        rwa [show (N : Int) = 256 + (ws.length : Int) by omega] at h
      have hI0 : IntB (w1.alloc (.cells C0 3)) w1.heap.size T0 := by rw [hC0]; exact heap_alloc_new _ _
      have hTl : T0.length = N := by rw [hT0]; simp
      have hbb := box_below w1 (.cells C0 3)
      have HTl : Hid (T0.length = N) := hTl
      have HN : Hid (N = 256 + ws.length) := hN
      have hN2 : N ≤ 556 := by omega
      have hN3 : 256 < N := by omega
      clear hT0 hC0 hTl hN
      go_wp2_with fail
      obtain ⟨V, hV⟩ : ∃ V, V = w1.alloc (.cells C0 3) := ⟨_, rfl⟩
      rw [← hV] at hI0 hbb ⊢
      clear hV hmk c0
      obtain ⟨gT, hgT⟩ : ∃ gT, gT = w1.heap.size := ⟨_, rfl⟩
      have HGT : Hid (gT = w1.heap.size) := hgT
      rw [← hgT] at hI0 hbb hzw1 ⊢
      clear hgT
      go_loopw [14] (fun v wr => ∃ (i : Nat) (T : List Int), i ≤ N ∧ v = .int .i64 (i : Nat) ∧ T.length = N ∧ (∀ (j : Nat), j < i → T[j]? = some (j : Int)) ∧ IntB wr gT T ∧ Below gT w1 wr) (fun v _ => N - (intOf v).toNat)
      case atStart => exact ⟨0, T0, Nat.zero_le _, rfl, HTl.out, fun j h => absurd h (Nat.not_lt_zero _), hI0, hbb⟩
      case round =>
        clear hI0 hbb
        obtain ⟨i, T, hi, rfl, hTl, hT, hI, hbr⟩ := hrel
        by_cases hlt : i < N
        · have hd : decide ((i : Int) < (N : Int)) = true := decide_eq_true (by omega)
          obtain ⟨y, hy⟩ : ∃ y, T[i]? = some y := ⟨_, List.getElem?_eq_getElem (by omega)⟩
          have c0 := hI.cell hy
          have f0 := hI.free i
          have HI : Hid (IntB wr gT T) := hI
          have HT : Hid (∀ (j : Nat), j < i → T[j]? = some (j : Int)) := hT
          have HTL : Hid (T.length = N) := hTl
          clear hy hT hI hTl
          go_wp2_with fail
          refine ⟨⟨i + 1, T.set i (i : Int), by omega, by go_num, by rw [List.length_set]; exact HTL.out, fun j hj => ?_, HI.out.set i _, hbr.setCell (p := ⟨gT, i, none⟩) (Nat.le_refl _) _⟩, by simp only [intOf]; omega⟩
          have := HTL.out
          rw [List.getElem?_set]
          by_cases e : i = j
          · subst e; rw [if_pos rfl, if_pos (by omega)]
          · rw [if_neg e]; exact HT.out j (by omega)
        · have hd : decide ((i : Int) < (N : Int)) = false := decide_eq_false (by omega)
          have hRen : Hid (Ren T ws.length) := by
            have hiN : i = N := by omega
            have e : T = (List.range (256 + ws.length)).map fun i : Nat => (i : Int) := by
              apply List.ext_getElem?
              intro j
              by_cases hj : j < N
              · rw [hT j (by omega), List.getElem?_map, List.getElem?_range (by have := HN.out; omega)]; rfl
              · rw [List.getElem?_eq_none (by omega), List.getElem?_eq_none (by have := HN.out; simp; omega)]
            have := Ren.start ws.length
            rw [← e] at this
            exact this
          have HI : Hid (IntB wr gT T) := hI
          have HBR : Hid (Below gT w1 wr) := hbr
          have hn1 : 1 ≤ ws.length := by omega
          clear hT hI hTl hbr
          go_wp2_with fail
          clear hd hlt
          have HWn : ∀ v wx, Calls Tryd.prog 25 #[.int .i64 v, .int .i64 0, .int .i64 ((ws.length : Int) - 1)] wx fun e w' => (∃ k : Nat, k ≤ ws.length - 1 ∧ e = .returned (.int .i64 k)) ∧ w' = wx := fun v wx => by
            have h := within0_any v (ws.length - 1) (by omega) wx
            rwa [show ((ws.length - 1 : Nat) : Int) = (ws.length : Int) - 1 by omega] at h
          go_loopw [15] (fun v wr => ∃ (q : Nat) (T : List Int), q ≤ 20 ∧ v = .int .i64 ((2 * q : Nat) : Int) ∧ Ren T ws.length ∧ IntB wr gT T ∧ Below gT w1 wr) (fun v _ => 40 - (intOf v).toNat)
          case atStart => exact ⟨0, T, Nat.zero_le _, rfl, hRen.out, HI.out, HBR.out⟩
          case round =>
            obtain ⟨q, T, hq, rfl, hR, hI, hbr⟩ := hrel
            have HR : Hid (Ren T ws.length) := hR
            have HI : Hid (IntB wr gT T) := hI
            have HBR : Hid (Below gT w1 wr) := hbr
            clear hR hI hbr
            by_cases hc : 2 * q + 1 < sw.length ∧ q < 20
            · obtain ⟨hc1, hc2⟩ := hc
              have d1 : decide (((2 * q : Nat) : Int) + 1 < (sw.length : Int)) = true := decide_eq_true (by omega)
              have d2 : decide (((2 * q : Nat) : Int) < 40) = true := decide_eq_true (by omega)
              obtain ⟨s0, hs0⟩ : ∃ s0, sw[2 * q]? = some s0 := ⟨_, List.getElem?_eq_getElem (by omega)⟩
              obtain ⟨s1, hs1⟩ : ∃ s1, sw[2 * q + 1]? = some s1 := ⟨_, List.getElem?_eq_getElem hc1⟩
              have hINS := HS.out.below (HB1.out.trans (HBR.out.mono (by rw [HGT.out]; exact HB1.out.size)))
              obtain ⟨sb, so, rfl, k0⟩ := hINS.at_ hs0
              have k1 : wr.cell? ⟨sb, so + (2 * q + 1), none⟩ = some (.int .i64 s1) := by
                obtain ⟨sb', so', he, h⟩ := hINS.at_ hs1
                cases he
                exact h
              clear hs0 hs1 hINS
              go_wp2_with fail
              refine (HWn s0 wr).mono ?_
              rintro e w2 ⟨⟨ka, hka, rfl⟩, he⟩
              obtain rfl := he.symm
              go_wp2_with fail
              refine (HWn s1 wr).mono ?_
              rintro e w2 ⟨⟨kb, hkb, rfl⟩, he⟩
              obtain rfl := he.symm
              obtain ⟨x, hx⟩ : ∃ x, T[256 + ka]? = some x := ⟨_, List.getElem?_eq_getElem (by rw [HR.out.len]; omega)⟩
              obtain ⟨y, hy⟩ : ∃ y, T[256 + kb]? = some y := ⟨_, List.getElem?_eq_getElem (by rw [HR.out.len]; omega)⟩
              have cx := HI.out.cell hx
              have cy := HI.out.cell hy
              have fj := fun j => HI.out.free j
              have hR2 : Hid (Ren ((T.set (256 + ka) y).set (256 + kb) x) ws.length) := HR.out.swap (by omega) (by omega) hx hy
              have hI2 : Hid (IntB ((wr.setCell ⟨gT, 256 + ka, none⟩ (.int .i64 y)).setCell ⟨gT, 256 + kb, none⟩ (.int .i64 x)) gT ((T.set (256 + ka) y).set (256 + kb) x)) := (HI.out.set _ y).set _ x
              have hB2 : Hid (Below gT w1 ((wr.setCell ⟨gT, 256 + ka, none⟩ (.int .i64 y)).setCell ⟨gT, 256 + kb, none⟩ (.int .i64 x))) := (HBR.out.setCell (p := ⟨gT, 256 + ka, none⟩) (Nat.le_refl _) _).setCell (p := ⟨gT, 256 + kb, none⟩) (Nat.le_refl _) _
              have l1 : 256 + ka < N := by have := HN.out; omega
              have l2 : 256 + kb < N := by have := HN.out; omega
              obtain ⟨y2, hy2⟩ : ∃ y2, (T.set (256 + ka) y)[256 + kb]? = some y2 := ⟨_, List.getElem?_eq_getElem (by rw [List.length_set, HR.out.len]; omega)⟩
              have cm := (HI.out.set (256 + ka) y).cell hy2
              have fm := fun j => (HI.out.set (256 + ka) y).free j
              clear hx hy hy2 k0 k1
              go_wp2_with fail
              exact ⟨⟨q + 1, _, by omega, by go_num, hR2.out, hI2.out, hB2.out⟩, by simp only [intOf]; omega⟩
            · have hend : (¬ 2 * q + 1 < sw.length) ∨ (2 * q + 1 < sw.length ∧ ¬ q < 20) := by omega
              clear hc hn0
              rcases hend with h | ⟨h, h2⟩
              all_goals
                go_wp2_with fail
                have hDz : DBox wr z _ _ _ _ _ := HD1.out.below HBR.out hzw1
                have hszr : gT < wr.heap.size := HI.out.lt
                have hmw := fun u => run_makeW u ws.length (by omega)
                refine wp_region_mono 10 [105, 106, 107, 108, 109, 110, 111, 112, 113, 19] [qR (.int .i64 (ws.length : Nat)),
                    fun v wx => ∃ gW, v = .slice (some ⟨gW, 0, none⟩) ws.length ws.length ∧ gT < gW ∧ OwnPw wx gW (cellsW (List.replicate ws.length ⟨#[]⟩)),
                    qR (.pointer (some ⟨z, 2, none⟩)),
                    qR (.slice a A.length ca),
                    qR (.pointer (some ⟨z, 3, none⟩)),
                    qR (.slice b B.length cb),
                    qR (.pointer (some ⟨z, 4, none⟩)),
                    qR (.slice c C.length cc),
                    fun v wx => ∃ gW, v = .agg #[.slice (some ⟨gW, 0, none⟩) ws.length ws.length, .slice none 0 0, .slice a A.length ca, .slice b B.length cb, .slice c C.length cc] ∧ gT < gW ∧ OwnPw wx gW (cellsW (List.replicate ws.length ⟨#[]⟩)),
                    fun v wx => ∃ gE, v = .pointer (some ⟨gE, 0, none⟩) ∧ gT < gE ∧ DBox wx gE (.slice none 0 0) (.slice none 0 0) (.slice none 0 0) (.slice none 0 0) (.slice none 0 0) ] (by kernel_rfl) (by kernel_rfl) rfl rfl ?stab ?steps ?fin
                case stab =>
                  intro φ hφ
                  simp only [List.mem_cons, List.not_mem_nil, or_false] at hφ
                  rcases hφ with rfl | rfl | rfl | rfl | rfl | rfl | rfl | rfl | rfl | rfl
                  · exact fun _ _ _ _ h => h
                  · rintro v wx w' hb ⟨gW, h1, h2, h3⟩
                    exact ⟨gW, h1, h2, h3.below hb h3.lt⟩
                  · exact fun _ _ _ _ h => h
                  · exact fun _ _ _ _ h => h
                  · exact fun _ _ _ _ h => h
                  · exact fun _ _ _ _ h => h
                  · exact fun _ _ _ _ h => h
                  · exact fun _ _ _ _ h => h
                  · rintro v wx w' hb ⟨gW, h1, h2, h3⟩
                    exact ⟨gW, h1, h2, h3.below hb h3.lt⟩
                  · rintro v wx w' hb ⟨gE, h1, h2, h3⟩
                    exact ⟨gE, h1, h2, h3.below hb h3.lt⟩
                case steps =>
                  have hBx : ∀ wx, Below wr.drew.heap.size wr.drew wx → Below wr.heap.size wr wx := fun wx hb => ⟨hb.os, hb.tape, hb.output, hb.size, hb.block⟩
                  refine ⟨?_, ?_, ?_, ?_, ?_, ?_, ?_, ?_, ?_, ?_, trivial⟩
                  · intro a' he wx hb hd
                    have e0 : a'.eval (.tmp 12) = .int .i64 (ws.length : Nat) := he.get rfl
                    exact mStep_read rfl (by simp [execOp, e0]) rfl
                  · intro a' he wx hb hd
                    have e0 : a'.eval (.tmp 105) = .int .i64 (ws.length : Nat) := hd 0 rfl _ _ rfl rfl
                    refine mStep_val rfl ?_ (box_below wx _) ⟨_, rfl, (by have := (hBx wx hb).size; omega), heap_alloc_new _ _⟩
                    simp only [execOp, e0]
                    go_simp
                  · intro a' he wx hb hd
                    have e0 : a'.eval (.tmp 4) = .pointer (some ⟨z, 0, none⟩) := he.get rfl
                    refine mStep_read rfl ?_ rfl
                    simp only [execOp, e0]
                    go_simp
                  · intro a' he wx hb hd
                    have e0 : a'.eval (.tmp 107) = .pointer (some ⟨z, 2, none⟩) := hd 2 rfl _ _ rfl rfl
                    have c := (hDz.below (hBx wx hb) hDz.lt).c2
                    refine mStep_read rfl ?_ rfl
                    simp only [execOp, e0]
                    go_simp
                  · intro a' he wx hb hd
                    have e0 : a'.eval (.tmp 4) = .pointer (some ⟨z, 0, none⟩) := he.get rfl
                    refine mStep_read rfl ?_ rfl
                    simp only [execOp, e0]
                    go_simp
                  · intro a' he wx hb hd
                    have e0 : a'.eval (.tmp 109) = .pointer (some ⟨z, 3, none⟩) := hd 4 rfl _ _ rfl rfl
                    have c := (hDz.below (hBx wx hb) hDz.lt).c3
                    refine mStep_read rfl ?_ rfl
                    simp only [execOp, e0]
                    go_simp
                  · intro a' he wx hb hd
                    have e0 : a'.eval (.tmp 4) = .pointer (some ⟨z, 0, none⟩) := he.get rfl
                    refine mStep_read rfl ?_ rfl
                    simp only [execOp, e0]
                    go_simp
                  · intro a' he wx hb hd
                    have e0 : a'.eval (.tmp 111) = .pointer (some ⟨z, 4, none⟩) := hd 6 rfl _ _ rfl rfl
                    have c := (hDz.below (hBx wx hb) hDz.lt).c4
                    refine mStep_read rfl ?_ rfl
                    simp only [execOp, e0]
                    go_simp
                  · intro a' he wx hb hd
                    have e0 := hd 1 rfl _ _ rfl rfl
                    have e1 : a'.eval (.tmp 108) = .slice a A.length ca := hd 3 rfl _ _ rfl rfl
                    have e2 : a'.eval (.tmp 110) = .slice b B.length cb := hd 5 rfl _ _ rfl rfl
                    have e3 : a'.eval (.tmp 112) = .slice c C.length cc := hd 7 rfl _ _ rfl rfl
                    obtain ⟨gW, e0, h1, h2⟩ := e0
                    refine mStep_read rfl ?_ ⟨gW, rfl, h1, h2⟩
                    simp [execOp, e0, e1, e2, e3]
                    go_simp
                  · intro a' he wx hb hd
                    refine mStep_val rfl ?_ (box_below wx _) ⟨_, rfl, (by have := (hBx wx hb).size; omega), heap_alloc_new _ _⟩
                    simp only [execOp]
                    go_simp
                case fin =>
                  rintro wx hb _ rfl u106 p106 _ rfl _ rfl _ rfl _ rfl _ rfl _ rfl u113 p113 u19 p19
                  obtain ⟨gE, rfl, hgE, hE⟩ := p19
                  obtain ⟨gW, rfl, hgW, hWw⟩ := p113
                  clear p106
                  simp only [finV, Act.put, List.setIfInBounds_toArray, List.set_cons_succ, List.set_cons_zero, List.drop_succ_cons, List.drop_zero]
                  have hbx : Below wr.heap.size wr wx := ⟨hb.os, hb.tape, hb.output, hb.size, hb.block⟩
                  have hI1 := HI.out.below hbx hszr
                  have hB1 := HBR.out.trans (hbx.mono (Nat.le_of_lt hszr))
                  have hne : gW ≠ gE := fun e => by
                    subst e
                    have h1 : wx.heap[gW]? = _ := hE
                    have h2 : wx.heap[gW]? = _ := hWw
                    rw [h1] at h2
                    have h3 := Option.some.inj h2
                    injection h3 with _ ht _
                    exact absurd ht (by decide)
                  have e0 := hE.c0
                  have e1 := hE.c1
                  have e2 := hE.c2
                  have e3 := hE.c3
                  have e4 := hE.c4
                  have ef := fun j => unfrozen_of_block hE j
                  clear hb hbx hmw hDz
                  go_wp2_with fail
                  clear e0 e1 e2 e3 e4 ef
                  have hX := ((((hE.s0 (.slice (some ⟨gW, 0, none⟩) ws.length ws.length)).s1 (.slice none 0 0)).s2 (.slice a A.length ca)).s3 (.slice b B.length cb)).s4 (.slice c C.length cc)
                  have hI2 := ((((hI1.other (b := gE) (o := 0) (by omega) (.slice (some ⟨gW, 0, none⟩) ws.length ws.length)).other (b := gE) (o := 1) (by omega) (.slice none 0 0)).other (b := gE) (o := 2) (by omega) (.slice a A.length ca)).other (b := gE) (o := 3) (by omega) (.slice b B.length cb)).other (b := gE) (o := 4) (by omega) (.slice c C.length cc)
                  have hW2 := ((((hWw.other (b := gE) (o := 0) hne (.slice (some ⟨gW, 0, none⟩) ws.length ws.length)).other (b := gE) (o := 1) hne (.slice none 0 0)).other (b := gE) (o := 2) hne (.slice a A.length ca)).other (b := gE) (o := 3) hne (.slice b B.length cb)).other (b := gE) (o := 4) hne (.slice c C.length cc)
                  have hB2 := ((((hB1.setCell (p := ⟨gE, 0, none⟩) (Nat.le_of_lt hgE) (.slice (some ⟨gW, 0, none⟩) ws.length ws.length)).setCell (p := ⟨gE, 1, none⟩) (Nat.le_of_lt hgE) (.slice none 0 0)).setCell (p := ⟨gE, 2, none⟩) (Nat.le_of_lt hgE) (.slice a A.length ca)).setCell (p := ⟨gE, 3, none⟩) (Nat.le_of_lt hgE) (.slice b B.length cb)).setCell (p := ⟨gE, 4, none⟩) (Nat.le_of_lt hgE) (.slice c C.length cc)
                  obtain ⟨V2, hV2⟩ : ∃ V2, V2 = (((((wx.setCell ⟨gE, 0, none⟩ (.slice (some ⟨gW, 0, none⟩) ws.length ws.length)).setCell ⟨gE, 1, none⟩ (.slice none 0 0)).setCell ⟨gE, 2, none⟩ (.slice a A.length ca)).setCell ⟨gE, 3, none⟩ (.slice b B.length cb)).setCell ⟨gE, 4, none⟩ (.slice c C.length cc)) := ⟨_, rfl⟩
                  rw [← hV2] at hX hI2 hW2 hB2 ⊢
                  clear hV2 hE hWw hI1 hB1
                  obtain ⟨S2, hS2⟩ : ∃ S2, S2 = V2.heap.size := ⟨_, rfl⟩
                  have hs1 : gT < S2 := by rw [hS2]; exact hI2.lt
                  have hs2 : gE < S2 := by rw [hS2]; exact hX.lt
                  have hs3 : gW < S2 := by rw [hS2]; exact hW2.lt
                  have HS2 : Hid (S2 ≤ V2.heap.size) := Nat.le_of_eq hS2
                  clear hS2
                  have HX : Hid (DBox V2 gE (.slice (some ⟨gW, 0, none⟩) ws.length ws.length) (.slice none 0 0) (.slice a A.length ca) (.slice b B.length cb) (.slice c C.length cc)) := hX
                  have HI2 : Hid (IntB V2 gT T) := hI2
                  have HW2 : Hid (OwnPw V2 gW (cellsW (List.replicate ws.length ⟨#[]⟩))) := hW2
                  have HB2 : Hid (Below gT w1 V2) := hB2
                  clear hX hI2 hW2 hB2
                  go_loopw [20] (fun v wr2 => ∃ (i : Nat) (E : List ByteArray), i ≤ ws.length ∧ v = .int .i64 (i : Nat) ∧ Moved T ws E i ∧ OwnPw wr2 gW (cellsW E) ∧ DBox wr2 gE (.slice (some ⟨gW, 0, none⟩) ws.length ws.length) (.slice none 0 0) (.slice a A.length ca) (.slice b B.length cb) (.slice c C.length cc) ∧ IntB wr2 gT T ∧ Below gT w1 wr2 ∧ S2 ≤ wr2.heap.size) (fun v _ => ws.length - (intOf v).toNat)
                  case atStart => exact ⟨0, _, Nat.zero_le _, rfl, ⟨by simp, fun i x h => absurd h (Nat.not_lt_zero _)⟩, HW2.out, HX.out, HI2.out, HB2.out, HS2.out⟩
                  case round =>
                    obtain ⟨i2, E, hi2, rfl, hMv, hWr, hXr, hIr, hBr, hSr⟩ := hrel
                    have HMv : Hid (Moved T ws E i2) := hMv
                    have HWr : Hid (OwnPw wr gW (cellsW E)) := hWr
                    have HXr : Hid (DBox wr gE (.slice (some ⟨gW, 0, none⟩) ws.length ws.length) (.slice none 0 0) (.slice a A.length ca) (.slice b B.length cb) (.slice c C.length cc)) := hXr
                    have HIr : Hid (IntB wr gT T) := hIr
                    have HBr : Hid (Below gT w1 wr) := hBr
                    have HSr : Hid (S2 ≤ wr.heap.size) := hSr
                    clear hMv hWr hXr hIr hBr hSr
                    by_cases hlt2 : i2 < ws.length
                    · obtain ⟨x, hx⟩ : ∃ x, ws[i2]? = some x := ⟨_, List.getElem?_eq_getElem hlt2⟩
                      have HXx : Hid (ws[i2]? = some x) := hx
                      have hWS := HW.out.below (HB1.out.trans (HBr.out.mono (by rw [HGT.out]; exact HB1.out.size)))
                      obtain ⟨bw, ow, rfl, kx⟩ := hWS.at_ hx
                      have hDz2 : DBox wr z _ _ _ _ _ := HD1.out.below HBr.out hzw1
                      have c0 := hDz2.c0
                      have e0 := HXr.out.c0
                      have hv := HR.out.get (id := 256 + (i2 : Int)) (by omega) (by omega)
                      have hvb := HR.out.word (id := 256 + (i2 : Int)) (by omega) (by omega)
                      rw [show ((256 : Int) + (i2 : Int)).toNat = 256 + i2 by omega] at hv
                      obtain ⟨p2, hp2⟩ : ∃ p2 : Nat, ren T (256 + (i2 : Int)) = 256 + (p2 : Int) := ⟨(ren T (256 + (i2 : Int)) - 256).toNat, by omega⟩
                      rw [hp2] at hv hvb
                      have hst := HMv.out.step HR.out hx
                      rw [hp2, show ((256 : Int) + (p2 : Int) - 256).toNat = p2 by omega] at hst
                      have HST : Hid (Moved T ws (E.set p2 x) (i2 + 1)) := hst
                      have kT := HIr.out.cell hv
                      obtain ⟨y, hy⟩ : ∃ y, E[p2]? = some y := ⟨_, List.getElem?_eq_getElem (by rw [HMv.out.1]; omega)⟩
                      have l1 : 256 + i2 < N := by have := HN.out; omega
                      have l2 : p2 < ws.length := by omega
                      have hy2 : Hid (E[p2]? = some y) := hy
                      clear hx hWS hDz2 hv hvb hp2 hst hy
                      go_wp2_with fail
                      refine wp_region_quiet_tail (C := fun w' => ∃ n, w' = wr.drewN n) 13 (by kernel_rfl) (by kernel_rfl) ⟨1, rfl⟩ ?_
                      simp only [List.take_succ_cons, List.take_zero, List.drop_succ_cons, List.drop_zero]
                      repeat (go_big_quiet_step (fail))
                      refine wpQuiet_nil ?_
                      intro _ hw'
                      obtain ⟨nq, hw''⟩ := hw'
                      subst hw''
                      have hbd := below_drewN (Below.refl wr.heap.size wr) nq
                      have HWd : Hid (OwnPw (wr.drewN nq) gW (cellsW E)) := HWr.out.below hbd HWr.out.lt
                      have HXd : Hid (DBox (wr.drewN nq) gE (.slice (some ⟨gW, 0, none⟩) ws.length ws.length) (.slice none 0 0) (.slice a A.length ca) (.slice b B.length cb) (.slice c C.length cc)) := HXr.out.below hbd HXr.out.lt
                      have HId : Hid (IntB (wr.drewN nq) gT T) := HIr.out.below hbd HIr.out.lt
                      have HBd : Hid (Below gT w1 (wr.drewN nq)) := HBr.out.trans (hbd.mono (Nat.le_of_lt HIr.out.lt))
                      have HSd : Hid (S2 ≤ (wr.drewN nq).heap.size) := Nat.le_trans HSr.out hbd.size
                      have kW := (HWd.out.cell p2).trans (cellsW_get hy2.out)
                      have fW := HWd.out.free p2
                      have hw2 : Hid (OwnPw ((wr.drewN nq).setCell ⟨gW, p2, none⟩ (.string x)) gW (cellsW (E.set p2 x))) := by
                        have := HWd.out.set p2 (.string x)
                        rw [cellsW_set] at this
                        exact this
                      obtain ⟨wd, hwd⟩ : ∃ wd, wd = wr.drewN nq := ⟨_, rfl⟩
                      rw [← hwd] at HWd HXd HId HBd HSd kW fW hw2 ⊢
                      clear hwd hbd kx c0 e0 kT
                      go_wp2_with fail
                      exact ⟨⟨i2 + 1, _, by omega, by go_num, HST.out, hw2.out, HXd.out.other (by omega) _, HId.out.other (by omega) _, HBd.out.setCell (p := ⟨gW, p2, none⟩) (Nat.le_of_lt hgW) _, by simpa using HSd.out⟩, by simp only [intOf]; omega⟩
                    · have HMv2 : Hid (Moved T ws E ws.length) := by rw [show ws.length = i2 by omega]; exact HMv.out
                      go_wp2_with fail
                      clear hlt2
                      have HMv : Hid (Moved T ws E ws.length) := HMv2
                      clear HMv2
                      go_loopw [21] (fun v wr2 => ∃ (k : Nat) (mv : Value), k ≤ ms.length ∧ v = .int .i64 (k : Nat) ∧ OwnMr wr2 S2 mv ((ms.take k).map (renM T)) ∧ DBox wr2 gE (.slice (some ⟨gW, 0, none⟩) ws.length ws.length) mv (.slice a A.length ca) (.slice b B.length cb) (.slice c C.length cc) ∧ OwnPw wr2 gW (cellsW E) ∧ IntB wr2 gT T ∧ Below gT w1 wr2 ∧ S2 ≤ wr2.heap.size) (fun v _ => ms.length - (intOf v).toNat)
                      case atStart => exact ⟨0, _, Nat.zero_le _, rfl, OwnMr.nil _ _, HXr.out, HWr.out, HIr.out, HBr.out, HSr.out⟩
                      case round =>
                        obtain ⟨k, mv, hk, rfl, hMr, hXr, hWr, hIr, hBr, hSr⟩ := hrel
                        have HMr : Hid (OwnMr wr S2 mv ((ms.take k).map (renM T))) := hMr
                        have HWr : Hid (OwnPw wr gW (cellsW E)) := hWr
                        have HXr : Hid (DBox wr gE (.slice (some ⟨gW, 0, none⟩) ws.length ws.length) mv (.slice a A.length ca) (.slice b B.length cb) (.slice c C.length cc)) := hXr
                        have HIr : Hid (IntB wr gT T) := hIr
                        have HBr : Hid (Below gT w1 wr) := hBr
                        have HSr : Hid (S2 ≤ wr.heap.size) := hSr
                        clear hMr hWr hXr hIr hBr hSr
                        by_cases hlt3 : k < ms.length
                        · obtain ⟨x, hx⟩ : ∃ x, ms[k]? = some x := ⟨_, List.getElem?_eq_getElem hlt3⟩
                          have HXx : Hid (ms[k]? = some x) := hx
                          have hMS := HM.out.below (HB1.out.trans (HBr.out.mono (by rw [HGT.out]; exact HB1.out.size)))
                          obtain ⟨bm, om, rfl, kx0, kx1, kx2⟩ := hMS.at_ hx
                          have hDz2 : DBox wr z _ _ _ _ _ := HD1.out.below HBr.out hzw1
                          have c1 := hDz2.c1
                          obtain ⟨⟨xl0, xl1⟩, ⟨xr0, xr1⟩, xi0, xi1⟩ := HK.out.ids hx
                          clear hx hMS hDz2
                          go_wp2_with fail
                          clear kx0 kx1 kx2 c1
                          have hbd := box_below wr (.cells #[.int .i64 x.l, .int .i64 x.r, .int .i64 x.i] 36)
                          have hXb := heap_alloc_new wr (.cells #[.int .i64 x.l, .int .i64 x.r, .int .i64 x.i] 36)
                          obtain ⟨xb, hxbe⟩ : ∃ xb, xb = wr.heap.size := ⟨_, rfl⟩
                          obtain ⟨wa, hwa⟩ : ∃ wa, wa = wr.alloc (.cells #[.int .i64 x.l, .int .i64 x.r, .int .i64 x.i] 36) := ⟨_, rfl⟩
                          rw [← hwa] at hbd hXb ⊢
                          rw [← hxbe] at hXb ⊢
                          have hXa := HXr.out.below hbd HXr.out.lt
                          have hTa := HIr.out.below hbd HIr.out.lt
                          have hWa := HWr.out.below hbd HWr.out.lt
                          have hMa := HMr.out.below hbd (Nat.le_refl _)
                          have hBa := HBr.out.trans (hbd.mono (Nat.le_of_lt HIr.out.lt))
                          have hSa : S2 ≤ wa.heap.size := Nat.le_trans HSr.out hbd.size
                          have hxb : xb < wa.heap.size := (Array.getElem?_eq_some_iff.1 hXb).1
                          have gl := HR.out.get xl0 xl1
                          have gr := HR.out.get xr0 xr1
                          have gi := HR.out.get (id := x.i) (by omega) xi1
                          have bl : x.l < (N : Int) := by have := HN.out; omega
                          have br : x.r < (N : Int) := by have := HN.out; omega
                          have bi : x.i < (N : Int) := by have := HN.out; omega
                          have xi2 : (0 : Int) ≤ x.i := by omega
                          have bl2 : x.l.toNat < N := by omega
                          have br2 : x.r.toNat < N := by omega
                          have bi2 : x.i.toNat < N := by omega
                          clear hwa hxbe hbd
                          refine wp_region_mono2 19 [145, 146, 147, 148, 149, 150, 151, 152, 153, 154, 155, 156, 157, 158, 159, 160, 161, 162, 163] [qR (.pointer (some ⟨gE, 1, none⟩)),
                              qR (mv),
                              qR (.slice (some ⟨gT, 0, none⟩) N N),
                              qR (.pointer (some ⟨xb, 0, none⟩)),
                              qR (.int .i64 x.l),
                              qR (.pointer (some ⟨gT, x.l.toNat, none⟩)),
                              qR (.int .i64 (ren T x.l)),
                              qR (.slice (some ⟨gT, 0, none⟩) N N),
                              qR (.pointer (some ⟨xb, 1, none⟩)),
                              qR (.int .i64 x.r),
                              qR (.pointer (some ⟨gT, x.r.toNat, none⟩)),
                              qR (.int .i64 (ren T x.r)),
                              qR (.slice (some ⟨gT, 0, none⟩) N N),
                              qR (.pointer (some ⟨xb, 2, none⟩)),
                              qR (.int .i64 x.i),
                              qR (.pointer (some ⟨gT, x.i.toNat, none⟩)),
                              qR (.int .i64 (ren T x.i)),
                              qR (.agg #[.int .i64 (ren T x.l), .int .i64 (ren T x.r), .int .i64 (ren T x.i)]),
                              fun v wx => ∃ gS, v = .slice (some ⟨gS, 0, none⟩) 1 1 ∧ wx.heap[gS]? = some (.cells #[.int .i64 (ren T x.l), .int .i64 (ren T x.r), .int .i64 (ren T x.i)] 36 (0, 0))] (by kernel_rfl) (by kernel_rfl) rfl rfl ?stab ?steps ?fin
                          case stab =>
                            intro φ hφ
                            simp only [List.mem_cons, List.not_mem_nil, or_false] at hφ
                            rcases hφ with rfl | rfl | rfl | rfl | rfl | rfl | rfl | rfl | rfl | rfl | rfl | rfl | rfl | rfl | rfl | rfl | rfl | rfl | rfl
                            · exact fun _ _ _ _ h => h
                            · exact fun _ _ _ _ h => h
                            · exact fun _ _ _ _ h => h
                            · exact fun _ _ _ _ h => h
                            · exact fun _ _ _ _ h => h
                            · exact fun _ _ _ _ h => h
                            · exact fun _ _ _ _ h => h
                            · exact fun _ _ _ _ h => h
                            · exact fun _ _ _ _ h => h
                            · exact fun _ _ _ _ h => h
                            · exact fun _ _ _ _ h => h
                            · exact fun _ _ _ _ h => h
                            · exact fun _ _ _ _ h => h
                            · exact fun _ _ _ _ h => h
                            · exact fun _ _ _ _ h => h
                            · exact fun _ _ _ _ h => h
                            · exact fun _ _ _ _ h => h
                            · exact fun _ _ _ _ h => h
                            · rintro v wx w' hb ⟨gS, h1, h2⟩
                              exact ⟨gS, h1, (hb.block gS (Array.getElem?_eq_some_iff.1 h2).1).trans h2⟩
                          case steps =>
                            have hBx : ∀ wx, Below wa.drew.heap.size wa.drew wx → Below wa.heap.size wa wx := fun wx hb => ⟨hb.os, hb.tape, hb.output, hb.size, hb.block⟩
                            refine ⟨?_, ?_, ?_, ?_, ?_, ?_, ?_, ?_, ?_, ?_, ?_, ?_, ?_, ?_, ?_, ?_, ?_, ?_, ?_, trivial⟩
                            · intro a' he wx hb hd
                              have e0 : a'.eval (.tmp 19) = .pointer (some ⟨gE, 0, none⟩) := he.get rfl
                              refine mStep_read rfl ?_ rfl
                              simp only [execOp, e0]
                              go_simp
                            · intro a' he wx hb hd
                              have e0 : a'.eval (.tmp 145) = .pointer (some ⟨gE, 1, none⟩) := hd 0 rfl _ _ rfl rfl
                              have c := (hXa.below (hBx wx hb) hXa.lt).c1
                              refine mStep_read rfl ?_ rfl
                              simp only [execOp, e0]
                              go_simp
                            · intro a' he wx hb hd
                              have e0 : a'.eval (.tmp 13) = .slice (some ⟨gT, 0, none⟩) N N := he.get rfl
                              exact mStep_read rfl (by simp [execOp, e0]) rfl
                            · intro a' he wx hb hd
                              have e0 : a'.eval (.tmp 22) = .pointer (some ⟨xb, 0, none⟩) := he.get rfl
                              refine mStep_read rfl ?_ rfl
                              simp only [execOp, e0]
                              go_simp
                            · intro a' he wx hb hd
                              have e0 : a'.eval (.tmp 148) = .pointer (some ⟨xb, 0, none⟩) := hd 3 rfl _ _ rfl rfl
                              have c := cell_of_block (((hBx wx hb).block xb hxb).trans hXb) (i := 0)
                              refine mStep_read rfl ?_ rfl
                              simp only [execOp, e0]
                              go_simp
                            · intro a' he wx hb hd
                              have e0 : a'.eval (.tmp 147) = .slice (some ⟨gT, 0, none⟩) N N := hd 2 rfl _ _ rfl rfl
                              have e1 : a'.eval (.tmp 149) = .int .i64 x.l := hd 4 rfl _ _ rfl rfl
                              refine mStep_read rfl ?_ rfl
                              first | (simp [execOp, e0, e1]; done) | (simp [execOp, e0, e1]; go_simp; done) | (simp [execOp, e0, e1, resolve]; go_simp; done) | (simp only [execOp, e0, e1]; go_simp)
                            · intro a' he wx hb hd
                              have e0 : a'.eval (.tmp 150) = .pointer (some ⟨gT, x.l.toNat, none⟩) := hd 5 rfl _ _ rfl rfl
                              have c := (hTa.below (hBx wx hb) hTa.lt).cell gl
                              refine mStep_read rfl ?_ rfl
                              first | (simp [execOp, e0]; done) | (simp [execOp, e0]; go_simp; done) | (simp [execOp, e0, resolve]; go_simp; done) | (simp only [execOp, e0]; go_simp)
                            · intro a' he wx hb hd
                              have e0 : a'.eval (.tmp 13) = .slice (some ⟨gT, 0, none⟩) N N := he.get rfl
                              exact mStep_read rfl (by simp [execOp, e0]) rfl
                            · intro a' he wx hb hd
                              have e0 : a'.eval (.tmp 22) = .pointer (some ⟨xb, 0, none⟩) := he.get rfl
                              refine mStep_read rfl ?_ rfl
                              simp only [execOp, e0]
                              go_simp
                            · intro a' he wx hb hd
                              have e0 : a'.eval (.tmp 153) = .pointer (some ⟨xb, 1, none⟩) := hd 8 rfl _ _ rfl rfl
                              have c := cell_of_block (((hBx wx hb).block xb hxb).trans hXb) (i := 1)
                              refine mStep_read rfl ?_ rfl
                              simp only [execOp, e0]
                              go_simp
                            · intro a' he wx hb hd
                              have e0 : a'.eval (.tmp 152) = .slice (some ⟨gT, 0, none⟩) N N := hd 7 rfl _ _ rfl rfl
                              have e1 : a'.eval (.tmp 154) = .int .i64 x.r := hd 9 rfl _ _ rfl rfl
                              refine mStep_read rfl ?_ rfl
                              first | (simp [execOp, e0, e1]; done) | (simp [execOp, e0, e1]; go_simp; done) | (simp [execOp, e0, e1, resolve]; go_simp; done) | (simp only [execOp, e0, e1]; go_simp)
                            · intro a' he wx hb hd
                              have e0 : a'.eval (.tmp 155) = .pointer (some ⟨gT, x.r.toNat, none⟩) := hd 10 rfl _ _ rfl rfl
                              have c := (hTa.below (hBx wx hb) hTa.lt).cell gr
                              refine mStep_read rfl ?_ rfl
                              first | (simp [execOp, e0]; done) | (simp [execOp, e0]; go_simp; done) | (simp [execOp, e0, resolve]; go_simp; done) | (simp only [execOp, e0]; go_simp)
                            · intro a' he wx hb hd
                              have e0 : a'.eval (.tmp 13) = .slice (some ⟨gT, 0, none⟩) N N := he.get rfl
                              exact mStep_read rfl (by simp [execOp, e0]) rfl
                            · intro a' he wx hb hd
                              have e0 : a'.eval (.tmp 22) = .pointer (some ⟨xb, 0, none⟩) := he.get rfl
                              refine mStep_read rfl ?_ rfl
                              simp only [execOp, e0]
                              go_simp
                            · intro a' he wx hb hd
                              have e0 : a'.eval (.tmp 158) = .pointer (some ⟨xb, 2, none⟩) := hd 13 rfl _ _ rfl rfl
                              have c := cell_of_block (((hBx wx hb).block xb hxb).trans hXb) (i := 2)
                              refine mStep_read rfl ?_ rfl
                              simp only [execOp, e0]
                              go_simp
                            · intro a' he wx hb hd
                              have e0 : a'.eval (.tmp 157) = .slice (some ⟨gT, 0, none⟩) N N := hd 12 rfl _ _ rfl rfl
                              have e1 : a'.eval (.tmp 159) = .int .i64 x.i := hd 14 rfl _ _ rfl rfl
                              refine mStep_read rfl ?_ rfl
                              first | (simp [execOp, e0, e1]; done) | (simp [execOp, e0, e1]; go_simp; done) | (simp [execOp, e0, e1, resolve]; go_simp; done) | (simp only [execOp, e0, e1]; go_simp)
                            · intro a' he wx hb hd
                              have e0 : a'.eval (.tmp 160) = .pointer (some ⟨gT, x.i.toNat, none⟩) := hd 15 rfl _ _ rfl rfl
                              have c := (hTa.below (hBx wx hb) hTa.lt).cell gi
                              refine mStep_read rfl ?_ rfl
                              first | (simp [execOp, e0]; done) | (simp [execOp, e0]; go_simp; done) | (simp [execOp, e0, resolve]; go_simp; done) | (simp only [execOp, e0]; go_simp)
                            · intro a' he wx hb hd
                              have e0 : a'.eval (.tmp 151) = .int .i64 (ren T x.l) := hd 6 rfl _ _ rfl rfl
                              have e1 : a'.eval (.tmp 156) = .int .i64 (ren T x.r) := hd 11 rfl _ _ rfl rfl
                              have e2 : a'.eval (.tmp 161) = .int .i64 (ren T x.i) := hd 16 rfl _ _ rfl rfl
                              refine mStep_read rfl ?_ rfl
                              first | (simp [execOp, e0, e1, e2]; done) | (simp [execOp, e0, e1, e2]; go_simp; done) | (simp [execOp, e0, e1, e2, resolve]; go_simp; done) | (simp only [execOp, e0, e1, e2]; go_simp)
                            · intro a' he wx hb hd
                              have e0 : a'.eval (.tmp 162) = .agg #[.int .i64 (ren T x.l), .int .i64 (ren T x.r), .int .i64 (ren T x.i)] := hd 17 rfl _ _ rfl rfl
                              refine mStep_val rfl ?_ (box_below wx _) ⟨_, rfl, heap_alloc_new _ _⟩
                              simp only [execOp, List.map_toArray, List.map, e0]
                              go_simp
                          case fin =>
                            rintro wx hb _ rfl _ rfl _ rfl _ rfl _ rfl _ rfl _ rfl _ rfl _ rfl _ rfl _ rfl _ rfl _ rfl _ rfl _ rfl _ rfl _ rfl _ rfl u163 p163
                            obtain ⟨gS, rfl, hS⟩ := p163
                            simp only [finV, Act.put, List.setIfInBounds_toArray, List.set_cons_succ, List.set_cons_zero, List.drop_succ_cons, List.drop_zero]
                            have hbx : Below wa.heap.size wa wx := ⟨hb.os, hb.tape, hb.output, hb.size, hb.block⟩
                            have hlen : ((ms.take k).map (renM T)).length ≤ 4096 := by simp; omega
                            obtain ⟨mv2, w5, hr5, hO5, hB5⟩ := run_own_mg wx S2 _ _ (renM T x) gS 1 (hMa.below hbx (Nat.le_refl _)) hS (Nat.le_trans hSa hbx.size) hlen
                            have hX5 := (hXa.below hbx hXa.lt).below hB5 hs2
                            have hT5 := (hTa.below hbx hTa.lt).below hB5 hs1
                            have hW5 := (hWa.below hbx hWa.lt).below hB5 hs3
                            have hBx5 := (hBa.trans (hbx.mono (Nat.le_of_lt hTa.lt))).trans (hB5.mono (Nat.le_of_lt hs1))
                            have hS5 : S2 ≤ w5.heap.size := Nat.le_trans (Nat.le_trans hSa hbx.size) hB5.size
                            rw [show (ms.take k).map (renM T) ++ [renM T x] = (ms.take (k + 1)).map (renM T) by rw [List.take_add_one, HXx.out]; simp] at hO5
                            obtain ⟨a5, c5, he5, -⟩ := hO5.form
                            obtain ⟨q5, hq5⟩ : ∃ q5, q5 = ((ms.take (k + 1)).map (renM T)).length := ⟨_, rfl⟩
                            rw [← hq5] at he5
                            subst he5
                            clear hq5
                            have e0 := hX5.c0
                            have e1 := hX5.c1
                            have ef := fun j => unfrozen_of_block hX5 j
                            clear hb hbx hXa hTa hWa hMa hBa hSa hXb hS hB5
                            go_wp2_with (first | (at_builtin; refine wpList_append_run rfl (.tmp 146) (.tmp 163) 39 39 rfl _ _ rfl rfl _ w5 hr5 ?_; clear hr5) | fail)
                            exact ⟨⟨k + 1, _, by omega, by go_num, hO5.away hs2 _, hX5.s1 _, hW5.other (by omega) _, hT5.other (by omega) _, hBx5.setCell (p := ⟨gE, 1, none⟩) (Nat.le_of_lt hgE) _, by simpa using hS5⟩, by simp only [intOf]; omega⟩
                        · obtain ⟨M', hM'⟩ : ∃ M', M' = ms.map (renM T) := ⟨_, rfl⟩
                          have hMl : M'.length = ms.length := by rw [hM']; simp
                          have HMr2 : OwnMr wr S2 mv M' := by
                            have := HMr.out
                            rw [show k = ms.length by omega, List.take_length, ← hM'] at this
                            exact this
                          obtain ⟨a5, c5, he5, hS5⟩ := HMr2.form
                          subst he5
                          have hEl : E.length = ws.length := HMv.out.1
                          have hck : checkD E M' A B C = (0, 0, 0) := by rw [hM']; exact named_ok HR.out HK.out HMv.out
                          have hwf2 : MWf M' := by
                            intro i2 y hy
                            rw [hM', List.getElem?_map] at hy
                            cases hx : ms[i2]? with
                            | none => rw [hx] at hy; cases hy
                            | some x =>
                              rw [hx] at hy
                              obtain rfl := Option.some.inj hy
                              obtain ⟨h1, h2, h3, h4⟩ := HK.out.ids hx
                              have k1 := HR.out.bound h1.1 h1.2
                              have k2 := HR.out.bound h2.1 h2.2
                              have k3 := HR.out.bound (id := x.i) (by omega) h4
                              unfold renM W64
                              simp only
                              omega
                          have hWE : WSP wr (some ⟨gW, 0, none⟩) E := WSP.of_block (r := []) (by rw [List.append_nil]; exact HWr.out)
                          have hBw : Below w.heap.size w wr := HB1.out.trans (HBr.out.mono (by rw [HGT.out]; exact HB1.out.size))
                          have hN := mnew_any (some ⟨gW, 0, none⟩) a5 a b c ws.length c5 ca cb cc E M' A B C wr hwf2 (by omega) hWE hS5 (HA.out.below hBw) (HB.out.below hBw) (HC.out.below hBw) (HG.out.below hBw)
                          rw [hEl, hck] at hN
                          simp only [f3V] at hN
                          have e0 := HXr.out.c0
                          have e1 := HXr.out.c1
                          have e2 := HXr.out.c2
                          have e3 := HXr.out.c3
                          have e4 := HXr.out.c4
                          have HCK : Hid (M' = ms.map (renM T)) := hM'
                          have hDz2 : DBox wr z _ _ _ _ _ := HD1.out.below HBr.out hzw1
                          have c1 := hDz2.c1
                          clear hDz2
                          clear hck hwf2 hWE hBw hS5 HMr2 hMl hEl hM'
                          go_wp2_with fail
                          clear e0 e1 e2 e3 e4 hlt3 c1
                          refine hN.mono ?_
                          rintro e w2 ⟨p, rfl, hp, -, hb2⟩
                          obtain ⟨g2, rfl, hM2⟩ := hp trivial
                          clear hp hN
                          simp only []
                          rw [show ((0 : Nat) : Int) = 0 from rfl]
                          have hbn := box_below w2 (.cells #[.int .i64 0, .int .i64 0, .int .i64 0] 26)
                          have hF3 := heap_alloc_new w2 (.cells #[.int .i64 0, .int .i64 0, .int .i64 0] 26)
                          have hb1r : Below w1.heap.size w1 wr := by rw [← HGT.out]; exact HBr.out
                          have hmd1 := ((HMd.out.below hb1r).below hb2).below hbn
                          have hmd2 := hM2.below hbn
                          have hI3 := (HIr.out.below hb2 HIr.out.lt).below hbn (Nat.lt_of_lt_of_le HIr.out.lt hb2.size)
                          have hB3 := (HBr.out.trans (hb2.mono (Nat.le_of_lt HIr.out.lt))).trans (hbn.mono (Nat.le_of_lt (Nat.lt_of_lt_of_le HIr.out.lt hb2.size)))
                          have HMD1 : Hid (ModelAt (w2.alloc (.cells #[.int .i64 0, .int .i64 0, .int .i64 0] 26)) Y.heap.size g ws ms A B C) := hmd1
                          have HMD2 : Hid (ModelAt (w2.alloc (.cells #[.int .i64 0, .int .i64 0, .int .i64 0] 26)) wr.heap.size g2 E M' A B C) := hmd2
                          have HI3 : Hid (IntB (w2.alloc (.cells #[.int .i64 0, .int .i64 0, .int .i64 0] 26)) gT T) := hI3
                          have HB3 : Hid (Below gT w1 (w2.alloc (.cells #[.int .i64 0, .int .i64 0, .int .i64 0] 26))) := hB3
                          have f0 := cell_of_block hF3 (i := 0)
                          have f1 := cell_of_block hF3 (i := 1)
                          have f2 := cell_of_block hF3 (i := 2)
                          have hfe := fEq_zero
                          clear hbn hF3 hb1r hmd1 hmd2 hI3 hB3 hM2 hb2
                          have hG3 : GL (w2.alloc (.cells #[.int .i64 0, .int .i64 0, .int .i64 0] 26)) := HG.out.below (HB1.out.trans (HB3.out.mono (by rw [HGT.out]; exact HB1.out.size)))
                          have hBf : Below w.heap.size w (w2.alloc (.cells #[.int .i64 0, .int .i64 0, .int .i64 0] 26)) := HB1.out.trans (HB3.out.mono (by rw [HGT.out]; exact HB1.out.size))
                          by_cases hin : 0 ≤ l ∧ l < (N : Int) ∧ 0 ≤ r ∧ r < (N : Int)
                          · obtain ⟨l0, l1, r0, r1⟩ := hin
                            have d1 : ¬ l < 0 := by omega
                            have d2 : ¬ (N : Int) ≤ l := by omega
                            have d3 : ¬ r < 0 := by omega
                            have d4 : ¬ (N : Int) ≤ r := by omega
                            have b1 : l < 256 + (ws.length : Int) := by have := HN.out; omega
                            have b2 : r < 256 + (ws.length : Int) := by have := HN.out; omega
                            have hX : ∃ (K1 I1 I2 : Int) (O : Bool), mrV (mergeM ms l r) = .tuple #[.int .i64 K1, .int .i64 I1, .bool O] ∧ mrV (mergeM M' (ren T l) (ren T r)) = .tuple #[.int .i64 K1, .int .i64 I2, .bool O] ∧ (O = true → 0 ≤ I1 ∧ I1 < (N : Int) ∧ T[I1.toNat]? = some I2) := by
                              rw [HCK.out, merge_renM HR.out HK.out l0 b1 r0 b2]
                              cases hq : mergeM ms l r with
                              | none => exact ⟨0, 0, 0, false, rfl, rfl, fun h => by cases h⟩
                              | some p =>
                                obtain ⟨kk, id⟩ := p
                                refine ⟨kk, id, ren T id, true, rfl, rfl, fun _ => ?_⟩
                                obtain ⟨x, hx, hxi⟩ : ∃ x, ms[kk]? = some x ∧ x.i = id := by
                                  unfold mergeM at hq
                                  cases hr2 : rankM ms l r with
                                  | none => rw [hr2] at hq; cases hq
                                  | some k2 =>
                                    rw [hr2] at hq
                                    simp only [Option.bind_some, Option.map_eq_some_iff, Prod.mk.injEq] at hq
                                    obtain ⟨x, h1, h2, h3⟩ := hq
                                    exact ⟨x, h2 ▸ h1, h3⟩
                                obtain ⟨-, -, h3, h4⟩ := HK.out.ids hx
                                rw [hxi] at h3 h4
                                exact ⟨by omega, by have := HN.out; omega, HR.out.get (by omega) h4⟩
                            obtain ⟨K1, I1, I2, O, hm1, hm2, hO⟩ := hX
                            have HM2 : Hid (mrV (mergeM M' (ren T l) (ren T r)) = .tuple #[.int .i64 K1, .int .i64 I2, .bool O]) := hm2
                            have HO : Hid (O = true → 0 ≤ I1 ∧ I1 < (N : Int) ∧ T[I1.toNat]? = some I2) := hO
                            have hMg := merge_any g _ ws ms A B C l r _ hl hr HMD1.out
                            rw [hm1] at hMg
                            obtain ⟨W3, hW3⟩ : ∃ W3, W3 = w2.alloc (.cells #[.int .i64 0, .int .i64 0, .int .i64 0] 26) := ⟨_, rfl⟩
                            have HW3 : Hid (W3 = w2.alloc (.cells #[.int .i64 0, .int .i64 0, .int .i64 0] 26)) := hW3
                            clear hG3 hm1 hm2 hO hW3
                            go_wp2_with fail
                            refine hMg.mono ?_
                            rintro e w4 ⟨rfl, hb4⟩
                            simp only []
                            rw [← HW3.out] at hb4 hBf HMD2 HI3 HB3
                            have hgW := HI3.out.lt
                            have hI4 := HI3.out.below hb4 hgW
                            have hmd4 := HMD2.out.below hb4
                            have hB4 := hBf.trans (hb4.mono hBf.size)
                            clear hMg f0 f1 f2 hfe d1 d2 d3 d4 hBf
                            go_wp2_with fail
                            have gl := HR.out.get l0 b1
                            have gr := HR.out.get r0 b2
                            have wl := HR.out.bound l0 b1
                            have wr2 := HR.out.bound r0 b2
                            have bl2 : l.toNat < N := by omega
                            have br2 : r.toNat < N := by omega
                            have HMe : ∀ wx, Below w4.heap.size w4 wx → Calls Tryd.prog 19 #[.pointer (some ⟨g2, 0, none⟩), .int .i64 (ren T l), .int .i64 (ren T r)] wx fun e w' => ∃ v, e = .returned v ∧ Below wx.heap.size wx w' ∧ v = .tuple #[.int .i64 K1, .int .i64 I2, .bool O] := fun wx hbx => by
                              refine (merge_any g2 _ E M' A B C (ren T l) (ren T r) wx (by unfold W64; omega) (by unfold W64; omega) (hmd4.below hbx)).mono ?_
                              rintro e w' ⟨he, h⟩
                              rw [HM2.out] at he
                              exact Exists.intro _ (And.intro he (And.intro h rfl))
                            refine wp_region_mono2 17 [206, 207, 208, 209, 210, 211, 212, 213, 214, 215, 205, 216, 217, 218, 28, 29, 30] [qR (.pointer (some ⟨g2, 0, none⟩)),
                                qR (.slice (some ⟨gT, 0, none⟩) N N),
                                qR (.int .i64 l),
                                qR (.pointer (some ⟨gT, l.toNat, none⟩)),
                                qR (.int .i64 (ren T l)),
                                qR (.slice (some ⟨gT, 0, none⟩) N N),
                                qR (.int .i64 r),
                                qR (.pointer (some ⟨gT, r.toNat, none⟩)),
                                qR (.int .i64 (ren T r)),
                                qR (.tuple #[.int .i64 K1, .int .i64 I2, .bool O]),
                                qR (.tuple #[.int .i64 K1, .int .i64 I2, .bool O]),
                                qR (.int .i64 K1),
                                qR (.int .i64 I2),
                                qR (.bool O),
                                qR (.int .i64 K1),
                                qR (.int .i64 I2),
                                qR (.bool O)] (by kernel_rfl) (by kernel_rfl) rfl rfl ?stab ?steps ?fin
                            case stab =>
                              intro φ hφ
                              simp only [List.mem_cons, List.not_mem_nil, or_false] at hφ
                              rcases hφ with rfl | rfl | rfl | rfl | rfl | rfl | rfl | rfl | rfl | rfl | rfl | rfl | rfl | rfl | rfl | rfl | rfl
                              · exact fun _ _ _ _ h => h
                              · exact fun _ _ _ _ h => h
                              · exact fun _ _ _ _ h => h
                              · exact fun _ _ _ _ h => h
                              · exact fun _ _ _ _ h => h
                              · exact fun _ _ _ _ h => h
                              · exact fun _ _ _ _ h => h
                              · exact fun _ _ _ _ h => h
                              · exact fun _ _ _ _ h => h
                              · exact fun _ _ _ _ h => h
                              · exact fun _ _ _ _ h => h
                              · exact fun _ _ _ _ h => h
                              · exact fun _ _ _ _ h => h
                              · exact fun _ _ _ _ h => h
                              · exact fun _ _ _ _ h => h
                              · exact fun _ _ _ _ h => h
                              · exact fun _ _ _ _ h => h
                            case steps =>
                              have hBx : ∀ wx, Below w4.drew.heap.size w4.drew wx → Below w4.heap.size w4 wx := fun wx hb => ⟨hb.os, hb.tape, hb.output, hb.size, hb.block⟩
                              refine ⟨?_, ?_, ?_, ?_, ?_, ?_, ?_, ?_, ?_, ?_, ?_, ?_, ?_, ?_, ?_, ?_, ?_, trivial⟩
                              · intro a' he wx hb hd
                                have e0 : a'.eval (.tmp 23) = .pointer (some ⟨g2, 0, none⟩) := he.get rfl
                                exact mStep_read rfl (by simp [execOp, e0]) rfl
                              · intro a' he wx hb hd
                                have e0 : a'.eval (.tmp 13) = .slice (some ⟨gT, 0, none⟩) N N := he.get rfl
                                exact mStep_read rfl (by simp [execOp, e0]) rfl
                              · intro a' he wx hb hd
                                have e0 : a'.eval (.tmp 2) = .int .i64 l := he.get rfl
                                exact mStep_read rfl (by simp [execOp, e0]) rfl
                              · intro a' he wx hb hd
                                have e0 : a'.eval (.tmp 207) = .slice (some ⟨gT, 0, none⟩) N N := hd 1 rfl _ _ rfl rfl
                                have e1 : a'.eval (.tmp 208) = .int .i64 l := hd 2 rfl _ _ rfl rfl
                                refine mStep_read rfl ?_ rfl
                                first | (simp [execOp, e0, e1]; done) | (simp [execOp, e0, e1]; go_simp; done) | (simp [execOp, e0, e1, resolve]; go_simp; done) | (simp only [execOp, e0, e1]; go_simp)
                              · intro a' he wx hb hd
                                have e0 : a'.eval (.tmp 209) = .pointer (some ⟨gT, l.toNat, none⟩) := hd 3 rfl _ _ rfl rfl
                                have c := (hI4.below (hBx wx hb) hI4.lt).cell gl
                                refine mStep_read rfl ?_ rfl
                                first | (simp [execOp, e0]; done) | (simp [execOp, e0]; go_simp; done) | (simp [execOp, e0, resolve]; go_simp; done) | (simp only [execOp, e0]; go_simp)
                              · intro a' he wx hb hd
                                have e0 : a'.eval (.tmp 13) = .slice (some ⟨gT, 0, none⟩) N N := he.get rfl
                                exact mStep_read rfl (by simp [execOp, e0]) rfl
                              · intro a' he wx hb hd
                                have e0 : a'.eval (.tmp 3) = .int .i64 r := he.get rfl
                                exact mStep_read rfl (by simp [execOp, e0]) rfl
                              · intro a' he wx hb hd
                                have e0 : a'.eval (.tmp 211) = .slice (some ⟨gT, 0, none⟩) N N := hd 5 rfl _ _ rfl rfl
                                have e1 : a'.eval (.tmp 212) = .int .i64 r := hd 6 rfl _ _ rfl rfl
                                refine mStep_read rfl ?_ rfl
                                first | (simp [execOp, e0, e1]; done) | (simp [execOp, e0, e1]; go_simp; done) | (simp [execOp, e0, e1, resolve]; go_simp; done) | (simp only [execOp, e0, e1]; go_simp)
                              · intro a' he wx hb hd
                                have e0 : a'.eval (.tmp 213) = .pointer (some ⟨gT, r.toNat, none⟩) := hd 7 rfl _ _ rfl rfl
                                have c := (hI4.below (hBx wx hb) hI4.lt).cell gr
                                refine mStep_read rfl ?_ rfl
                                first | (simp [execOp, e0]; done) | (simp [execOp, e0]; go_simp; done) | (simp [execOp, e0, resolve]; go_simp; done) | (simp only [execOp, e0]; go_simp)
                              · intro a' he wx hb hd
                                have e0 : a'.eval (.tmp 206) = .pointer (some ⟨g2, 0, none⟩) := hd 0 rfl _ _ rfl rfl
                                have e1 : a'.eval (.tmp 210) = .int .i64 (ren T l) := hd 4 rfl _ _ rfl rfl
                                have e2 : a'.eval (.tmp 214) = .int .i64 (ren T r) := hd 8 rfl _ _ rfl rfl
                                exact mStep_call rfl (by simp [execOp, e0, e1, e2, resolve]; rfl) (HMe wx (hBx wx hb))
                              · intro a' he wx hb hd
                                have e0 : a'.eval (.tmp 215) = .tuple #[.int .i64 K1, .int .i64 I2, .bool O] := hd 9 rfl _ _ rfl rfl
                                exact mStep_read rfl (by simp [execOp, e0]) rfl
                              · intro a' he wx hb hd
                                have e0 : a'.eval (.tmp 205) = .tuple #[.int .i64 K1, .int .i64 I2, .bool O] := hd 10 rfl _ _ rfl rfl
                                refine mStep_read rfl ?_ rfl
                                first | (simp [execOp, e0]; done) | (simp [execOp, e0]; go_simp; done) | (simp [execOp, e0, resolve]; go_simp; done) | (simp only [execOp, e0]; go_simp)
                              · intro a' he wx hb hd
                                have e0 : a'.eval (.tmp 205) = .tuple #[.int .i64 K1, .int .i64 I2, .bool O] := hd 10 rfl _ _ rfl rfl
                                refine mStep_read rfl ?_ rfl
                                first | (simp [execOp, e0]; done) | (simp [execOp, e0]; go_simp; done) | (simp [execOp, e0, resolve]; go_simp; done) | (simp only [execOp, e0]; go_simp)
                              · intro a' he wx hb hd
                                have e0 : a'.eval (.tmp 205) = .tuple #[.int .i64 K1, .int .i64 I2, .bool O] := hd 10 rfl _ _ rfl rfl
                                refine mStep_read rfl ?_ rfl
                                first | (simp [execOp, e0]; done) | (simp [execOp, e0]; go_simp; done) | (simp [execOp, e0, resolve]; go_simp; done) | (simp only [execOp, e0]; go_simp)
                              · intro a' he wx hb hd
                                have e0 : a'.eval (.tmp 216) = .int .i64 K1 := hd 11 rfl _ _ rfl rfl
                                exact mStep_read rfl (by simp [execOp, e0]) rfl
                              · intro a' he wx hb hd
                                have e0 : a'.eval (.tmp 217) = .int .i64 I2 := hd 12 rfl _ _ rfl rfl
                                exact mStep_read rfl (by simp [execOp, e0]) rfl
                              · intro a' he wx hb hd
                                have e0 : a'.eval (.tmp 218) = .bool O := hd 13 rfl _ _ rfl rfl
                                exact mStep_read rfl (by simp [execOp, e0]) rfl
                            case fin =>
                              rintro wx hb _ rfl _ rfl _ rfl _ rfl _ rfl _ rfl _ rfl _ rfl _ rfl _ rfl _ rfl _ rfl _ rfl _ rfl _ rfl _ rfl _ rfl
                              simp only [finV, Act.put, List.setIfInBounds_toArray, List.set_cons_succ, List.set_cons_zero, List.drop_succ_cons, List.drop_zero]
                              have hbx : Below w4.heap.size w4 wx := ⟨hb.os, hb.tape, hb.output, hb.size, hb.block⟩
                              have hB5 := hB4.trans (hbx.mono hB4.size)
                              have hI5 := hI4.below hbx hI4.lt
                              have hk := known_any wx (HG.out.below hB5)
                              have q1 : (K1 == K1) = true := by simp
                              clear hb hbx hI4 hB4 hmd4 HMe gl gr wl wr2 bl2 br2
                              cases O with
                              | false =>
                                clear hI5
                                go_wp2_with fail
                                refine hk.mono ?_
                                rintro e w6 ⟨rfl, hb6⟩
                                go_wp2_with fail
                                go_ret
                                exact ⟨rfl, hB5.trans (hb6.mono hB5.size)⟩
                              | true =>
                                obtain ⟨i0, i1, hT⟩ := HO.out rfl
                                have c := hI5.cell hT
                                have q2 : (I2 == I2) = true := by simp
                                have i3 : I1.toNat < N := by omega
                                clear hI5 hT
                                go_wp2_with fail
                                refine hk.mono ?_
                                rintro e w6 ⟨rfl, hb6⟩
                                go_wp2_with fail
                                go_ret
                                exact ⟨rfl, hB5.trans (hb6.mono hB5.size)⟩
                          · have hk := known_any _ hG3
                            have hor : l < 0 ∨ (¬ l < 0 ∧ (N : Int) ≤ l) ∨ (¬ l < 0 ∧ ¬ (N : Int) ≤ l ∧ r < 0) ∨ (¬ l < 0 ∧ ¬ (N : Int) ≤ l ∧ ¬ r < 0 ∧ (N : Int) ≤ r) := by omega
                            clear hin hG3
                            rcases hor with h | ⟨h, h2⟩ | ⟨h, h2, h3⟩ | ⟨h, h2, h3, h4⟩
                            all_goals
                              go_wp2_with fail
                              refine hk.mono ?_
                              rintro e w4 ⟨rfl, hb4⟩
                              go_wp2_with fail
                              go_ret
                              exact ⟨rfl, hBf.trans (hb4.mono hBf.size)⟩
end Go.Proofs.YtlnebbciefdpoaaDoor
