/- tesseraref5.Check: its contract. -/
import Derived.Test.YtlnebbciefdpoaaDoorMRefC
import Derived.Test.YtlnebbciefdpoaaDoorMNew
import Derived.Test.YtlnebbciefdpoaaDoorCCheck
namespace Go.Proofs.YtlnebbciefdpoaaDoor
open Go.RowKit Go.Sort Go.Joins
set_option linter.unusedVariables false
set_option maxRecDepth 100000 in
set_option maxHeartbeats 4000000 in
theorem refCheck5_any (aw am a b c : Option Addr) (cw cm ca cb cc : Nat) (ws : List ByteArray) (ms : List Mg) (A B C : List Sp) (w : World) (hwf : MWf ms) (hn : ws.length ≤ 4611686018427387) (hW : WSP w aw ws) (hM : MSP w am ms) (hA : Lst w a ca A) (hB : Lst w b cb B) (hC : Lst w c cc C) :
    Calls Tryd.prog 42 #[.agg #[.slice aw ws.length cw, .slice am ms.length cm, .slice a A.length ca, .slice b B.length cb, .slice c C.length cc]] w fun e w' => e = .returned (f3V (checkD ws ms A B C)) ∧ Below w.heap.size w w' := by
  have hD := DBox.new w (.slice aw ws.length cw) (.slice am ms.length cm) (.slice a A.length ca) (.slice b B.length cb) (.slice c C.length cc)
  have hb := box_below w (.cells #[.slice aw ws.length cw, .slice am ms.length cm, .slice a A.length ca, .slice b B.length cb, .slice c C.length cc] 42)
  have hR2 := heap_alloc_new (w.alloc (.cells #[.slice aw ws.length cw, .slice am ms.length cm, .slice a A.length ca, .slice b B.length cb, .slice c C.length cc] 42)) (.cells #[.int .i64 0, .int .i64 0, .int .i64 0] 92)
  have hB2 := hb.alloc hb.size (.cells #[.int .i64 0, .int .i64 0, .int .i64 0] 92)
  have hD2 := hD.below (box_below (w.alloc (.cells #[.slice aw ws.length cw, .slice am ms.length cm, .slice a A.length ca, .slice b B.length cb, .slice c C.length cc] 42)) (.cells #[.int .i64 0, .int .i64 0, .int .i64 0] 92)) hD.lt
  rw [show (w.alloc (.cells #[.slice aw ws.length cw, .slice am ms.length cm, .slice a A.length ca, .slice b B.length cb, .slice c C.length cc] 42)).heap.size = w.heap.size + 1 by simp] at hR2
  have HW0 : Hid (WSP w aw ws) := hW
  have HM0 : Hid (MSP w am ms) := hM
  have HA0 : Hid (Lst w a ca A) := hA
  have HB0 : Hid (Lst w b cb B) := hB
  have HC0 : Hid (Lst w c cc C) := hC
  clear hD hW hM hA hB hC
  obtain ⟨E, hE⟩ : ∃ E, E = checkD ws ms A B C := ⟨_, rfl⟩
  have HE : Hid (E = checkD ws ms A B C) := hE
  rw [← hE]
  clear hE
  have hs2 : ((w.alloc (.cells #[.slice aw ws.length cw, .slice am ms.length cm, .slice a A.length ca, .slice b B.length cb, .slice c C.length cc] 42)).alloc (.cells #[.int .i64 0, .int .i64 0, .int .i64 0] 92)).heap.size = w.heap.size + 1 + 1 := by simp
  by_cases h1 : 4096 < ms.length
  · have g1 : decide ((4096 : Int) < (ms.length : Int)) = true := decide_eq_true (by omega)
    have HE2 : Hid (E = (4, 5, 4096)) := (by rw [HE.out]; unfold checkD; rw [if_pos h1] : E = (4, 5, 4096))
    have x1 := hD2.c1
    clear hR2 hB2 hD2 HE
    go_enter Tryd.func42, Tryd.ntmps42
    go_wp2_with fail
    exact bodyPost_ret (v := .agg #[.int .i64 4, .int .i64 5, .int .i64 4096]) (by simp [results, Tryd.results42, go_sem]) rfl ⟨by rw [HE2.out]; rfl, hb.alloc hb.size _⟩
  · have g1 : decide ((4096 : Int) < (ms.length : Int)) = false := decide_eq_false (by omega)
    by_cases h2 : ws.length = ms.length
    · have g2 : ((ws.length : Int) == (ms.length : Int)) = true := by simp; omega
      have HE2 : Hid (E = _) := HE.out.trans (checkD_zero (by unfold numF; rw [if_neg h1, if_neg (by simpa using h2)]))
      have HN : Hid (ws.length = ms.length) := h2
      have x0 := hD2.c0
      have x1 := hD2.c1
      have x2 := hD2.c2
      have x3 := hD2.c3
      have x4 := hD2.c4
      have H4 := fun (wx : World) h1 h2 h3 => refCheck_any a b c ca cb cc A B C wx h1 h2 h3
      have H5 := fun (wx : World) h => refWords_any aw am a b c cw ms.length cm A.length ca B.length cb C.length cc ws wx (by omega) h
      have H6 := fun (wx : World) hz h h' => refMerges_any aw am a b c cw cm A.length ca B.length cb C.length cc ws ms wx (by omega) (by omega) hwf hz h h'
      obtain ⟨⟨ya, la, ra⟩, hya⟩ : ∃ q, q = checkA A B C := ⟨_, rfl⟩
      rw [← hya] at H4
      have HYA : Hid ((ya, la, ra) = checkA A B C) := hya
      obtain ⟨⟨yw, rw_⟩, hyw⟩ : ∃ q, q = firstBad (badW ws) ws.length := ⟨_, rfl⟩
      rw [← hyw] at H5
      have HYW : Hid ((yw, rw_) = firstBad (badW ws) ws.length) := hyw
      obtain ⟨⟨ym, rm⟩, hym⟩ : ∃ q, q = firstBad (badM ws ms) ms.length := ⟨_, rfl⟩
      rw [← hym] at H6
      have HYM : Hid ((ym, rm) = firstBad (badM ws ms) ms.length) := hym
      unfold wrV at H4
      unfold fbV at H5 H6
      clear hya hyw hym HE h2
      have hne1 : ((4096 : Int) < (ms.length : Int)) = False := by simp; omega
      clear hne1
      go_enter Tryd.func42, Tryd.ntmps42
      go_wp2_with fail
      obtain ⟨Y, hY⟩ : ∃ Y, Y = ((w.alloc (.cells #[.slice aw ws.length cw, .slice am ms.length cm, .slice a A.length ca, .slice b B.length cb, .slice c C.length cc] 42)).alloc (.cells #[.int .i64 0, .int .i64 0, .int .i64 0] 92)) := ⟨_, rfl⟩
      rw [← hY] at hB2 hD2 hR2 hs2 ⊢
      clear hY x0 x1 x2 x3 x4
      obtain ⟨z, hz⟩ : ∃ z, z = w.heap.size := ⟨_, rfl⟩
      have HZ : Hid (z = w.heap.size) := hz
      rw [← hz] at hD2 hR2 hs2 ⊢
      clear hz
      refine (H4 Y (HA0.out.below hB2) (HB0.out.below hB2) (HC0.out.below hB2)).mono ?_
      rintro e w3 ⟨rfl, hb3⟩
      simp only []
      obtain ⟨yai, hyai⟩ : ∃ q : Int, q = (ya : Nat) := ⟨_, rfl⟩
      obtain ⟨lai, hlai⟩ : ∃ q : Int, q = (la : Nat) := ⟨_, rfl⟩
      obtain ⟨rai, hrai⟩ : ∃ q : Int, q = (ra : Nat) := ⟨_, rfl⟩
      rw [← hyai, ← hlai, ← hrai]
      have HYAI : Hid (yai = (ya : Nat) ∧ lai = (la : Nat) ∧ rai = (ra : Nat)) := ⟨hyai, hlai, hrai⟩
      clear H4
      have hDa := hD2.below hb3 (by omega)
      have hRa := (hb3.block (z + 1) (by omega)).trans hR2
      have hBa := hB2.trans (hb3.mono hB2.size)
      have hsa : z + 1 + 1 ≤ w3.heap.size := by have := hb3.size; omega
      have hbn := box_below w3 (.cells #[.int .i64 yai, .int .i64 lai, .int .i64 rai] 116)
      have hF3 := heap_alloc_new w3 (.cells #[.int .i64 yai, .int .i64 lai, .int .i64 rai] 116)
      have hD3 := hDa.below hbn (by omega)
      have hR3 := (hbn.block (z + 1) (by omega)).trans hRa
      have hB3 := hBa.trans (hbn.mono hBa.size)
      have hs3 : z + 1 + 1 ≤ (w3.alloc (.cells #[.int .i64 yai, .int .i64 lai, .int .i64 rai] 116)).heap.size := by simp; omega
      clear hDa hRa hBa hsa hbn hD2 hR2 hB2 hs2 hb3
      have f0 := cell_of_block hF3 0
      have f1 := cell_of_block hF3 1
      have f2 := cell_of_block hF3 2
      have e1 := fun j => unfrozen_of_block hF3 j
      have e2 := fun j => unfrozen_of_block hR3 j
      have z0 := cell_of_block hR3 (i := 0)
      have z1 := cell_of_block hR3 (i := 1)
      have z2 := cell_of_block hR3 (i := 2)
      by_cases ha0 : ya = 0
      · obtain rfl : yai = 0 := by rw [hyai, ha0]; rfl
        have HY0 : Hid ((checkA A B C).1 = 0) := by rw [← HYA.out]; exact ha0
        have x0 := hD3.c0
        have x1 := hD3.c1
        have x2 := hD3.c2
        have x3 := hD3.c3
        have x4 := hD3.c4
        clear hyai hlai hrai ha0 HYA
        go_wp2_with fail
        obtain ⟨W3, hW3⟩ : ∃ W3, W3 = w3.alloc (.cells #[.int .i64 0, .int .i64 lai, .int .i64 rai] 116) := ⟨_, rfl⟩
        rw [← hW3] at hF3 hD3 hR3 hB3 hs3 f0 f1 f2 e1 e2 z0 z1 z2 x0 x1 x2 x3 x4 ⊢
        clear hW3
        clear f0 f1 f2 e1 e2 x0 x1 x2 x3 x4 z0 z1 z2 hF3
        refine (H5 W3 (HW0.out.below hB3)).mono ?_
        rintro e w4 ⟨rfl, hb4⟩
        simp only []
        obtain ⟨ywi, hywi⟩ : ∃ q : Int, q = (yw : Nat) := ⟨_, rfl⟩
        obtain ⟨lwi, hlwi⟩ : ∃ q : Int, q = ((if yw = 0 then 0 else 4 : Nat) : Int) := ⟨_, rfl⟩
        obtain ⟨rwi, hrwi⟩ : ∃ q : Int, q = (rw_ : Nat) := ⟨_, rfl⟩
        rw [← hywi, ← hlwi, ← hrwi]
        have HYWI : Hid (ywi = (yw : Nat) ∧ lwi = ((if yw = 0 then 0 else 4 : Nat) : Int) ∧ rwi = (rw_ : Nat)) := ⟨hywi, hlwi, hrwi⟩
        clear H5
        have hDa := hD3.below hb4 (by omega)
        have hRa := (hb4.block (z + 1) (by omega)).trans hR3
        have hBa := hB3.trans (hb4.mono hB3.size)
        have hsa : z + 1 + 1 ≤ w4.heap.size := by have := hb4.size; omega
        have hbn := box_below w4 (.cells #[.int .i64 ywi, .int .i64 lwi, .int .i64 rwi] 92)
        have hF4 := heap_alloc_new w4 (.cells #[.int .i64 ywi, .int .i64 lwi, .int .i64 rwi] 92)
        have hD4 := hDa.below hbn (by omega)
        have hR4 := (hbn.block (z + 1) (by omega)).trans hRa
        have hB4 := hBa.trans (hbn.mono hBa.size)
        have hs4 : z + 1 + 1 ≤ (w4.alloc (.cells #[.int .i64 ywi, .int .i64 lwi, .int .i64 rwi] 92)).heap.size := by simp; omega
        clear hDa hRa hBa hsa hbn hD3 hR3 hB3 hs3 hb4
        have f0 := cell_of_block hF4 0
        have f1 := cell_of_block hF4 1
        have f2 := cell_of_block hF4 2
        have e1 := fun j => unfrozen_of_block hF4 j
        have e2 := fun j => unfrozen_of_block hR4 j
        have z0 := cell_of_block hR4 (i := 0)
        have z1 := cell_of_block hR4 (i := 1)
        have z2 := cell_of_block hR4 (i := 2)
        by_cases hw0 : yw = 0
        · obtain rfl : ywi = 0 := by rw [hywi, hw0]; rfl
          have hRgt : WRgt ws := firstBad_zero (by rw [← HYW.out]; exact hw0)
          have HW00 : Hid ((firstBad (badW ws) ws.length).1 = 0) := by rw [← HYW.out]; exact hw0
          have x0 := hD4.c0
          have x1 := hD4.c1
          have x2 := hD4.c2
          have x3 := hD4.c3
          have x4 := hD4.c4
          clear hywi hlwi hrwi hw0 HYW
          go_wp2_with fail
          obtain ⟨W4, hW4⟩ : ∃ W4, W4 = w4.alloc (.cells #[.int .i64 0, .int .i64 lwi, .int .i64 rwi] 92) := ⟨_, rfl⟩
          rw [← hW4] at hF4 hD4 hR4 hB4 hs4 f0 f1 f2 e1 e2 z0 z1 z2 x0 x1 x2 x3 x4 ⊢
          clear hW4
          clear f0 f1 f2 e1 e2 x0 x1 x2 x3 x4 z0 z1 z2 hF4
          refine (H6 W4 (fun i x hx => (hRgt.size hx).2) (HW0.out.below hB4) (HM0.out.below hB4)).mono ?_
          rintro e w5 ⟨rfl, hb5⟩
          simp only []
          obtain ⟨ymi, hymi⟩ : ∃ q : Int, q = (ym : Nat) := ⟨_, rfl⟩
          obtain ⟨lmi, hlmi⟩ : ∃ q : Int, q = ((if ym = 0 then 0 else 5 : Nat) : Int) := ⟨_, rfl⟩
          obtain ⟨rmi, hrmi⟩ : ∃ q : Int, q = (rm : Nat) := ⟨_, rfl⟩
          rw [← hymi, ← hlmi, ← hrmi]
          have hR5 := (hb5.block (z + 1) (by omega)).trans hR4
          have hB5 := hB4.trans (hb5.mono hB4.size)
          have HE3 : E = (ym, (if ym = 0 then 0 else 5 : Nat), rm) := by
            rw [HE2.out, if_neg (by simpa using HY0.out), if_neg (by simpa using HW00.out), ← HYM.out]
            by_cases hm0 : ym = 0
            · rw [if_neg (by simpa using hm0), if_pos hm0]
              have hq := HYM.out
              have hc := firstBad_cases (badM ws ms) ms.length
              rcases hc with ⟨-, h⟩ | ⟨k, h1, h2, h3, h4⟩
              · rw [h] at hq; simp only [Prod.mk.injEq] at hq; rw [hq.1, hq.2]
              · rw [h4] at hq; simp only [Prod.mk.injEq] at hq; exact absurd (hq.1.symm.trans hm0) h3
            · rw [if_pos (by simpa using hm0), if_neg hm0]
          have HE3 : Hid (E = (ym, (if ym = 0 then 0 else 5 : Nat), rm)) := HE3
          have HYMI : Hid (ymi = (ym : Nat) ∧ lmi = ((if ym = 0 then 0 else 5 : Nat) : Int) ∧ rmi = (rm : Nat)) := ⟨hymi, hlmi, hrmi⟩
          have e2 := fun j => unfrozen_of_block hR5 j
          have z0 := cell_of_block hR5 (i := 0)
          have z1 := cell_of_block hR5 (i := 1)
          have z2 := cell_of_block hR5 (i := 2)
          clear hymi hlmi hrmi H6 hD4 hR4 hB4
          go_wp2_with fail
          have hfin := wr_set hR5 (u0 := .int .i64 ymi) (u1 := .int .i64 lmi) (u2 := .int .i64 rmi)
          have hBf := wr_below hB5 (g := z + 1) (u0 := .int .i64 ymi) (u1 := .int .i64 lmi) (u2 := .int .i64 rmi) (by rw [HZ.out]; omega)
          obtain ⟨Wf, hWf⟩ : ∃ Wf, Wf = (((w5.setCell ⟨z + 1, 0, none⟩ (.int .i64 ymi)).setCell ⟨z + 1, 1, none⟩ (.int .i64 lmi)).setCell ⟨z + 1, 2, none⟩ (.int .i64 rmi)) := ⟨_, rfl⟩
          rw [← hWf] at hfin hBf ⊢
          have y0 := cell_of_block hfin (i := 0)
          have y1 := cell_of_block hfin (i := 1)
          have y2 := cell_of_block hfin (i := 2)
          exact bodyPost_ret (v := .agg #[.int .i64 ymi, .int .i64 lmi, .int .i64 rmi]) (by simp [results, Tryd.results42, go_sem, y0, y1, y2]) rfl ⟨by rw [HE3.out, HYMI.out.1, HYMI.out.2.1, HYMI.out.2.2]; rfl, hBf⟩
        · have hne : (ywi == 0) = false := by rw [hywi]; simp; omega
          have HE3 : Hid (E = (yw, 4, rw_)) := by rw [HE2.out, if_neg (by simpa using HY0.out), ← HYW.out]; exact if_pos hw0
          have hl4 : lwi = 4 := by rw [hlwi, if_neg hw0]; rfl
          subst hl4
          clear hywi hlwi hrwi HE2
          go_wp2_with fail
          obtain ⟨W4, hW4⟩ : ∃ W4, W4 = w4.alloc (.cells #[.int .i64 ywi, .int .i64 4, .int .i64 rwi] 92) := ⟨_, rfl⟩
          rw [← hW4] at hF4 hD4 hR4 hB4 hs4 f0 f1 f2 e1 e2 z0 z1 z2 ⊢
          clear hW4
          have hfin := wr_set hR4 (u0 := .int .i64 ywi) (u1 := .int .i64 4) (u2 := .int .i64 rwi)
          have hBf := wr_below hB4 (g := z + 1) (u0 := .int .i64 ywi) (u1 := .int .i64 4) (u2 := .int .i64 rwi) (by rw [HZ.out]; omega)
          obtain ⟨Wf, hWf⟩ : ∃ Wf, Wf = (((W4.setCell ⟨z + 1, 0, none⟩ (.int .i64 ywi)).setCell ⟨z + 1, 1, none⟩ (.int .i64 4)).setCell ⟨z + 1, 2, none⟩ (.int .i64 rwi)) := ⟨_, rfl⟩
          rw [← hWf] at hfin hBf ⊢
          have y0 := cell_of_block hfin (i := 0)
          have y1 := cell_of_block hfin (i := 1)
          have y2 := cell_of_block hfin (i := 2)
          exact bodyPost_ret (v := .agg #[.int .i64 ywi, .int .i64 4, .int .i64 rwi]) (by simp [results, Tryd.results42, go_sem, y0, y1, y2]) rfl ⟨by rw [HE3.out, HYWI.out.1, HYWI.out.2.2]; rfl, hBf⟩
      · have hne : (yai == 0) = false := by rw [hyai]; simp; omega
        have HE3 : Hid (E = (ya, la, ra)) := by rw [HE2.out, ← HYA.out]; exact if_pos ha0
        clear hyai hlai hrai HE2
        go_wp2_with fail
        obtain ⟨W3, hW3⟩ : ∃ W3, W3 = w3.alloc (.cells #[.int .i64 yai, .int .i64 lai, .int .i64 rai] 116) := ⟨_, rfl⟩
        rw [← hW3] at hF3 hD3 hR3 hB3 hs3 f0 f1 f2 e1 e2 z0 z1 z2 ⊢
        clear hW3
        have hfin := wr_set hR3 (u0 := .int .i64 yai) (u1 := .int .i64 lai) (u2 := .int .i64 rai)
        have hBf := wr_below hB3 (g := z + 1) (u0 := .int .i64 yai) (u1 := .int .i64 lai) (u2 := .int .i64 rai) (by rw [HZ.out]; omega)
        obtain ⟨Wf, hWf⟩ : ∃ Wf, Wf = (((W3.setCell ⟨z + 1, 0, none⟩ (.int .i64 yai)).setCell ⟨z + 1, 1, none⟩ (.int .i64 lai)).setCell ⟨z + 1, 2, none⟩ (.int .i64 rai)) := ⟨_, rfl⟩
        rw [← hWf] at hfin hBf ⊢
        have y0 := cell_of_block hfin (i := 0)
        have y1 := cell_of_block hfin (i := 1)
        have y2 := cell_of_block hfin (i := 2)
        exact bodyPost_ret (v := .agg #[.int .i64 yai, .int .i64 lai, .int .i64 rai]) (by simp [results, Tryd.results42, go_sem, y0, y1, y2]) rfl ⟨by rw [HE3.out, HYAI.out.1, HYAI.out.2.1, HYAI.out.2.2]; rfl, hBf⟩
    · have g2 : ((ws.length : Int) == (ms.length : Int)) = false := by simp; omega
      have HE2 : Hid (E = (4, 4, min ws.length ms.length)) := (by rw [HE.out]; unfold checkD; rw [if_neg h1, if_pos h2] : E = (4, 4, min ws.length ms.length))
      have x0 := hD2.c0
      have x1 := hD2.c1
      clear hR2 hB2 hD2 HE
      by_cases hlt : ms.length < ws.length
      · have g3 : decide ((ms.length : Int) < (ws.length : Int)) = true := decide_eq_true (by omega)
        have HQ : Hid (min ws.length ms.length = ms.length) := by show min _ _ = _; omega
        go_enter Tryd.func42, Tryd.ntmps42
        go_wp2_with fail
        exact bodyPost_ret (v := .agg #[.int .i64 4, .int .i64 4, .int .i64 (ms.length : Int)]) (by simp [results, Tryd.results42, go_sem]) rfl ⟨by rw [HE2.out, HQ.out]; rfl, hb.alloc hb.size _⟩
      · have g3 : decide ((ms.length : Int) < (ws.length : Int)) = false := decide_eq_false (by omega)
        have HQ : Hid (min ws.length ms.length = ws.length) := by show min _ _ = _; omega
        go_enter Tryd.func42, Tryd.ntmps42
        go_wp2_with fail
        exact bodyPost_ret (v := .agg #[.int .i64 4, .int .i64 4, .int .i64 (ws.length : Int)]) (by simp [results, Tryd.results42, go_sem]) rfl ⟨by rw [HE2.out, HQ.out]; rfl, hb.alloc hb.size _⟩
end Go.Proofs.YtlnebbciefdpoaaDoor
