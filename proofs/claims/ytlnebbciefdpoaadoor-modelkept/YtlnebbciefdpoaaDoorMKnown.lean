/- tesseralaw5.known; Model.Data; tesserakeep.Same: their contracts. -/
import Derived.Test.YtlnebbciefdpoaaDoorMHouse
import Derived.Test.YtlnebbciefdpoaaDoorMMerge
import Derived.Test.YtlnebbciefdpoaaDoorMRoomyW
import Derived.Test.YtlnebbciefdpoaaDoorMRoomyM
namespace Go.Proofs.YtlnebbciefdpoaaDoor
open Go.RowKit Go.Sort Go.Joins
set_option linter.unusedVariables false
theorem hou_up : upB houW houM houA houB houC = true := by decide +kernel
theorem hou_wf : MWf houM := by
  intro i x hx
  have hi : i < 6 := (List.getElem?_eq_some_iff.1 hx).1
  unfold W64
  rcases (show i = 0 ∨ i = 1 ∨ i = 2 ∨ i = 3 ∨ i = 4 ∨ i = 5 by omega) with rfl | rfl | rfl | rfl | rfl | rfl <;>
    (simp [houM] at hx; subst hx; decide)
set_option maxRecDepth 100000 in
set_option maxHeartbeats 4000000 in
theorem known_any (w : World) (hG : GL w) : Calls Tryd.prog 14 #[] w fun e w' => e = .returned (.bool true) ∧ Below w.heap.size w w' := by
  have HO := fun (s0 s1 a b c : Option Addr) (wx : World) (h1 : WSP wx s0 houW) (h2 : MSP wx s1 houM) (h3 : Lst wx a 2 houA) (h4 : Lst wx b 1 houB) (h5 : Lst wx c 2 houC) (hg : GL wx) => keepOf_any s0 s1 a b c 6 6 2 1 2 houW houM houA houB houC wx hou_wf (by decide) h1 h2 h3 h4 h5 hg
  rw [hou_up] at HO
  rw [show houA.length = 2 from rfl, show houB.length = 1 from rfl, show houC.length = 2 from rfl, show houW.length = 6 from rfl, show houM.length = 6 from rfl] at HO
  have H1 := fun (g : Nat) (wx : World) lo (h : ModelAt wx lo g houW houM houA houB houC) => merge_any g lo houW houM houA houB houC 97 98 wx (by unfold W64; omega) (by unfold W64; omega) h
  have H2 := fun (g : Nat) (wx : World) lo (h : ModelAt wx lo g houW houM houA houB houC) => mword_any g lo houW houM houA houB houC 259 wx (by decide) h
  have H3 := fun (g : Nat) (wx : World) lo (h : ModelAt wx lo g houW houM houA houB houC) => msize_any g lo houW houM houA houB houC wx (by decide) h
  have H4 := fun (g : Nat) (wx : World) lo (h : ModelAt wx lo g houW houM houA houB houC) => mlongest_any g lo houW houM houA houB houC wx h
  rw [show mrV (mergeM houM 97 98) = .tuple #[.int .i64 0, .int .i64 256, .bool true] by rfl] at H1
  rw [show wdV (wordM houW 259) = .tuple #[.string ⟨#[116, 104, 101]⟩, .bool true] by rfl] at H2
  rw [show (256 + ((houW.length : Nat) : Int)) = 262 by decide] at H3
  rw [show ((longM houW : Nat) : Int) = 3 by decide +kernel] at H4
  go_enter Tryd.func14, Tryd.ntmps14
  go_wp2_with fail
  refine (house_any _).mono ?_
  rintro e w1 ⟨s0, s1, a, b, c, rfl, hW, hM, hA, hB, hC, hb1⟩
  have HO := HO s0 s1 a b c w1 hW hM ⟨Nat.le_refl _, by omega, hA⟩ ⟨Nat.le_refl _, by omega, hB⟩ ⟨Nat.le_refl _, by omega, hC⟩ (hG.below hb1)
  clear hW hM hA hB hC
  go_wp2_with fail
  refine HO.mono ?_
  rintro e w2 ⟨p, rfl, h2, -, hb2⟩
  obtain ⟨g, rfl, hMd⟩ := h2 rfl
  have B2 := hb1.trans (hb2.mono hb1.size)
  have hG2 := hG.below B2
  clear HO h2 hb1 hb2 hG
  go_wp2_with fail
  refine (H1 g _ _ hMd).mono ?_
  rintro e w3 ⟨rfl, hb3⟩
  have hM3 := hMd.below hb3
  have B3 := B2.trans (hb3.mono B2.size)
  clear H1 hMd hb3 B2
  go_wp2_with fail
  refine (H2 g _ _ hM3).mono ?_
  rintro e w4 ⟨rfl, hb4⟩
  have hM4 := hM3.below hb4
  have B4 := B3.trans (hb4.mono B3.size)
  clear H2 hM3 hb4 B3
  go_wp2_with fail
  refine (H3 g _ _ hM4).mono ?_
  rintro e w5 ⟨rfl, rfl⟩
  clear H3
  go_wp2_with fail
  refine (H4 g _ _ hM4).mono ?_
  rintro e w6 ⟨rfl, rfl⟩
  clear H4
  go_wp2_with fail
  go_ret
  exact ⟨rfl, B4⟩
/-- Of a model that is right: sizes. -/
structure MOk (ws : List ByteArray) (ms : List Mg) (A B C : List Sp) : Prop where
  m4 : ms.length ≤ 4096
  nm : ws.length = ms.length
  la : A.length ≤ 512
  lb : B.length ≤ 512
  lc : C.length ≤ 512
  words : WRgt ws
  cuts : ∀ j, j < ms.length → badM ws ms j = 0
  cls : (checkA A B C).1 = 0
theorem checkD_ok {ws : List ByteArray} {ms : List Mg} {A B C : List Sp} (h : (checkD ws ms A B C).1 = 0) : MOk ws ms A B C := by
  unfold checkD at h
  by_cases h1 : 4096 < ms.length
  · rw [if_pos h1] at h; cases h
  · rw [if_neg h1] at h
    by_cases h2 : ws.length ≠ ms.length
    · rw [if_pos h2] at h; cases h
    · rw [if_neg h2] at h
      by_cases h3 : (checkA A B C).1 ≠ 0
      · rw [if_pos h3] at h; exact absurd h h3
      · rw [if_neg h3] at h
        have h3 : (checkA A B C).1 = 0 := by simpa using h3
        by_cases h4 : (firstBad (badW ws) ws.length).1 ≠ 0
        · rw [if_pos h4] at h; exact absurd h h4
        · rw [if_neg h4] at h
          by_cases h5 : (firstBad (badM ws ms) ms.length).1 ≠ 0
          · rw [if_pos h5] at h; exact absurd h h5
          · have hl := (check_pass h3).1.len (by omega)
            exact ⟨by omega, by simpa using h2, hl.1, hl.2.1, hl.2.2, firstBad_zero (by simpa using h4), firstBad_zero (by simpa using h5), h3⟩
theorem upB_ok {ws : List ByteArray} {ms : List Mg} {A B C : List Sp} (h : upB ws ms A B C = true) : MOk ws ms A B C := by
  unfold upB at h
  simp only [Bool.and_eq_true, decide_eq_true_eq] at h
  exact checkD_ok h.2
theorem upB_few {ws : List ByteArray} {ms : List Mg} {A B C : List Sp} (h : upB ws ms A B C = true) : ms.length ≤ 300 := by
  have h0 := upB_ok h
  unfold upB largeB at h
  simp only [Bool.and_eq_true, Bool.not_eq_true', Bool.and_eq_false_iff, decide_eq_false_iff_not] at h
  have := h0.m4
  omega
set_option maxRecDepth 100000 in
set_option maxHeartbeats 1000000 in
theorem data_any (g lo : Nat) (ws : List ByteArray) (ms : List Mg) (A B C : List Sp) (w : World) (hk : MOk ws ms A B C) (h : ModelAt w lo g ws ms A B C) :
    Calls Tryd.prog 23 #[.pointer (some ⟨g, 0, none⟩)] w fun e w' => ∃ a0 c0 a1 c1 a2 c2 a3 c3 a4 c4, e = .returned (.agg #[.slice a0 ws.length c0, .slice a1 ms.length c1, .slice a2 A.length c2, .slice a3 B.length c3, .slice a4 C.length c4]) ∧ OwnD w' w.heap.size a0 c0 a1 c1 a2 c2 a3 c3 a4 c4 ws ms A B C ∧ Below w.heap.size w w' := by
  obtain ⟨a0, c0, a1, c1, a2, c2, a3, c3, a4, c4, gt, gr, h1, h2, h3, h4, h5, h6⟩ := h
  have ba := box_below w (.cells #[.slice none 0 0, .slice none 0 0, .slice none 0 0, .slice none 0 0, .slice none 0 0] 42)
  have hN := Blk.new w (.cells #[.slice none 0 0, .slice none 0 0, .slice none 0 0, .slice none 0 0, .slice none 0 0] 42)
  have h3' := (ba.block g (Array.getElem?_eq_some_iff.1 h3).1).trans h3
  have h4' := h4.below ba
  obtain ⟨s3, s4, q1, q2, o2, u2, o3, u3, o4⟩ := h4'.spans
  have hc := copied_any a0 a1 a2 a3 a4 c0 c1 c2 c3 c4 ws ms A B C (w.alloc (.cells #[.slice none 0 0, .slice none 0 0, .slice none 0 0, .slice none 0 0, .slice none 0 0] 42)) (by have := hk.m4; have := hk.nm; omega) (by have := hk.m4; omega) (by have := hk.la; omega) (by have := hk.lb; omega) (by have := hk.lc; omega) (fun i x hx => (hk.words.size hx).2) h4'.words.row.sp h4'.merges.row.sp o2.row.sp o3.row.sp o4.row.sp
  have x0 := cell_of_block h3' 0
  have x1 := cell_of_block h3' 1
  have x2 := cell_of_block h3' 2
  have x3 := cell_of_block h3' 3
  have x4 := cell_of_block h3' 4
  have hsz : (w.alloc (.cells #[.slice none 0 0, .slice none 0 0, .slice none 0 0, .slice none 0 0, .slice none 0 0] 42)).heap.size = w.heap.size + 1 := by simp
  clear h1 h2 h3 h4 h5 h6 h3' h4' q1 q2 o2 u2 o3 u3 o4
  go_enter Tryd.func23, Tryd.ntmps23
  go_wp2_with fail
  refine hc.mono ?_
  rintro e w1 ⟨b0, k0, b1, k1, b2, k2, b3, k3, b4, k4, rfl, hO, hb1⟩
  have hN1 := hN.up hb1
  have f0 := fun j => hN1.free j
  have y0 := hN1.cell 0
  have y1 := hN1.cell 1
  have y2 := hN1.cell 2
  have y3 := hN1.cell 3
  have y4 := hN1.cell 4
  have B1 := ba.trans (hb1.mono ba.size)
  rw [hsz] at hO
  have HO : Hid (OwnD w1 (w.heap.size + 1) b0 k0 b1 k1 b2 k2 b3 k3 b4 k4 ws ms A B C) := hO
  have HN1 : Hid (w1.heap[w.heap.size]? = _) := hN1
  clear hc x0 x1 x2 x3 x4 hN ba hb1 hsz hO hN1
  go_wp2_with fail
  have hX : DBox w1 w.heap.size _ _ _ _ _ := HN1.out
  have hY := ((((hX.s0 (.slice b0 ws.length k0)).s1 (.slice b1 ms.length k1)).s2 (.slice b2 A.length k2)).s3 (.slice b3 B.length k3)).s4 (.slice b4 C.length k4)
  have hO2 := ((((HO.out.away (b := w.heap.size) (o := 0) (by omega) (.slice b0 ws.length k0)).away (b := w.heap.size) (o := 1) (by omega) (.slice b1 ms.length k1)).away (b := w.heap.size) (o := 2) (by omega) (.slice b2 A.length k2)).away (b := w.heap.size) (o := 3) (by omega) (.slice b3 B.length k3)).away (b := w.heap.size) (o := 4) (by omega) (.slice b4 C.length k4)
  have B2 := ((((B1.setCell (p := ⟨w.heap.size, 0, none⟩) (Nat.le_refl _) (.slice b0 ws.length k0)).setCell (p := ⟨w.heap.size, 1, none⟩) (Nat.le_refl _) (.slice b1 ms.length k1)).setCell (p := ⟨w.heap.size, 2, none⟩) (Nat.le_refl _) (.slice b2 A.length k2)).setCell (p := ⟨w.heap.size, 3, none⟩) (Nat.le_refl _) (.slice b3 B.length k3)).setCell (p := ⟨w.heap.size, 4, none⟩) (Nat.le_refl _) (.slice b4 C.length k4)
  have z0 := hY.c0
  have z1 := hY.c1
  have z2 := hY.c2
  have z3 := hY.c3
  have z4 := hY.c4
  exact bodyPost_ret (v := .agg #[.slice b0 ws.length k0, .slice b1 ms.length k1, .slice b2 A.length k2, .slice b3 B.length k3, .slice b4 C.length k4]) (by simp [results, Tryd.results23, go_sem, z0, z1, z2, z3, z4]) rfl ⟨_, _, _, _, _, _, _, _, _, _, rfl, hO2.low (by omega), B2⟩
set_option maxRecDepth 100000 in
set_option maxHeartbeats 2000000 in
theorem keepSame_any (a0 a1 a2 a3 a4 b0 b1 b2 b3 b4 : Option Addr) (c0 c1 c2 c3 c4 d0 d1 d2 d3 d4 : Nat) (ws : List ByteArray) (ms : List Mg) (A B C : List Sp) (w : World) (hn : ws.length ≤ 4611686018427387904 ∧ ms.length ≤ 4611686018427387904 ∧ A.length ≤ 4611686018427387904 ∧ B.length ≤ 4611686018427387904 ∧ C.length ≤ 4611686018427387904)
    (h0 : WSP w a0 ws) (h1 : MSP w a1 ms) (h2 : SPS w a2 A) (h3 : SPS w a3 B) (h4 : SPS w a4 C) (k0 : WSP w b0 ws) (k1 : MSP w b1 ms) (k2 : SPS w b2 A) (k3 : SPS w b3 B) (k4 : SPS w b4 C) :
    Calls Tryd.prog 22 #[.agg #[.slice a0 ws.length c0, .slice a1 ms.length c1, .slice a2 A.length c2, .slice a3 B.length c3, .slice a4 C.length c4], .agg #[.slice b0 ws.length d0, .slice b1 ms.length d1, .slice b2 A.length d2, .slice b3 B.length d3, .slice b4 C.length d4]] w fun e w' => e = .returned (.bool true) ∧ Below w.heap.size w w' := by
  have hX := DBox.new w (.slice a0 ws.length c0) (.slice a1 ms.length c1) (.slice a2 A.length c2) (.slice a3 B.length c3) (.slice a4 C.length c4)
  have bX := box_below w (.cells #[.slice a0 ws.length c0, .slice a1 ms.length c1, .slice a2 A.length c2, .slice a3 B.length c3, .slice a4 C.length c4] 42)
  obtain ⟨X, eX⟩ : ∃ X, X = w.alloc (.cells #[.slice a0 ws.length c0, .slice a1 ms.length c1, .slice a2 A.length c2, .slice a3 B.length c3, .slice a4 C.length c4] 42) := ⟨_, rfl⟩
  have sX : X.heap.size = w.heap.size + 1 := by rw [eX]; simp
  rw [← eX] at hX bX
  have hY := DBox.new X (.slice b0 ws.length d0) (.slice b1 ms.length d1) (.slice b2 A.length d2) (.slice b3 B.length d3) (.slice b4 C.length d4)
  have bY := box_below X (.cells #[.slice b0 ws.length d0, .slice b1 ms.length d1, .slice b2 A.length d2, .slice b3 B.length d3, .slice b4 C.length d4] 42)
  have hX2 := hX.below bY hX.lt
  have bZ := bX.trans (bY.mono bX.size)
  rw [sX] at hY
  obtain ⟨Y, eY⟩ : ∃ Y, Y = X.alloc (.cells #[.slice b0 ws.length d0, .slice b1 ms.length d1, .slice b2 A.length d2, .slice b3 B.length d3, .slice b4 C.length d4] 42) := ⟨_, rfl⟩
  rw [← eY] at hY bY hX2 bZ
  have e2 : (w.alloc (.cells #[.slice a0 ws.length c0, .slice a1 ms.length c1, .slice a2 A.length c2, .slice a3 B.length c3, .slice a4 C.length c4] 42)).alloc (.cells #[.slice b0 ws.length d0, .slice b1 ms.length d1, .slice b2 A.length d2, .slice b3 B.length d3, .slice b4 C.length d4] 42) = Y := by rw [eY, eX]
  have E2 : Hid (_ = Y) := e2
  have HX : Hid (DBox Y w.heap.size (.slice a0 ws.length c0) (.slice a1 ms.length c1) (.slice a2 A.length c2) (.slice a3 B.length c3) (.slice a4 C.length c4)) := hX2
  have HY : Hid (DBox Y (w.heap.size + 1) (.slice b0 ws.length d0) (.slice b1 ms.length d1) (.slice b2 A.length d2) (.slice b3 B.length d3) (.slice b4 C.length d4)) := hY
  have S0 := fun wx (hb : Below w.heap.size w wx) => sameW_any a0 b0 c0 d0 ws wx (by omega) (h0.below hb) (k0.below hb)
  have S1 := fun wx (hb : Below w.heap.size w wx) => sameM_any a1 b1 c1 d1 ms wx (by omega) (h1.below hb) (k1.below hb)
  have S2 := fun wx (hb : Below w.heap.size w wx) => same_any a2 b2 c2 d2 A wx (by omega) (h2.below hb) (k2.below hb)
  have S3 := fun wx (hb : Below w.heap.size w wx) => same_any a3 b3 c3 d3 B wx (by omega) (h3.below hb) (k3.below hb)
  have S4 := fun wx (hb : Below w.heap.size w wx) => same_any a4 b4 c4 d4 C wx (by omega) (h4.below hb) (k4.below hb)
  have u0 := cell_alloc_s hX.c0
  have u1 := cell_alloc_s hX.c1
  clear u0 u1 h0 h1 h2 h3 h4 k0 k1 k2 k3 k4 hX bX bY eY eX e2 hX2 hY sX
  go_enter Tryd.func22, Tryd.ntmps22
  go_wp2_with fail
  rw [E2.out]
  clear E2
  have go : ∀ wx, Below Y.heap.size Y wx → DBox wx w.heap.size (.slice a0 ws.length c0) (.slice a1 ms.length c1) (.slice a2 A.length c2) (.slice a3 B.length c3) (.slice a4 C.length c4) ∧ DBox wx (w.heap.size + 1) (.slice b0 ws.length d0) (.slice b1 ms.length d1) (.slice b2 A.length d2) (.slice b3 B.length d3) (.slice b4 C.length d4) := fun wx hb => ⟨HX.out.below hb HX.out.lt, HY.out.below hb HY.out.lt⟩
  have GO : Hid (∀ wx, Below Y.heap.size Y wx → DBox wx w.heap.size (.slice a0 ws.length c0) (.slice a1 ms.length c1) (.slice a2 A.length c2) (.slice a3 B.length c3) (.slice a4 C.length c4) ∧ DBox wx (w.heap.size + 1) (.slice b0 ws.length d0) (.slice b1 ms.length d1) (.slice b2 A.length d2) (.slice b3 B.length d3) (.slice b4 C.length d4)) := go
  clear go
  refine (S0 Y bZ).mono ?_
  rintro e w1 ⟨rfl, hb1⟩
  have B1 := hb1
  have t1 := (GO.out w1 B1).1.c1
  have t2 := (GO.out w1 B1).2.c1
  clear S0 hb1
  go_wp2_with fail
  refine (S1 w1 (bZ.trans (B1.mono bZ.size))).mono ?_
  rintro e w2 ⟨rfl, hb2⟩
  have B2 := B1.trans (hb2.mono B1.size)
  clear t1 t2 S1 hb2 B1
  have t1 := (GO.out w2 B2).1.c2
  have t2 := (GO.out w2 B2).2.c2
  go_wp2_with fail
  refine (S2 w2 (bZ.trans (B2.mono bZ.size))).mono ?_
  rintro e w3 ⟨rfl, hb3⟩
  have B3 := B2.trans (hb3.mono B2.size)
  clear t1 t2 S2 hb3 B2
  have t1 := (GO.out w3 B3).1.c3
  have t2 := (GO.out w3 B3).2.c3
  go_wp2_with fail
  refine (S3 w3 (bZ.trans (B3.mono bZ.size))).mono ?_
  rintro e w4 ⟨rfl, hb4⟩
  have B4 := B3.trans (hb4.mono B3.size)
  clear t1 t2 S3 hb4 B3
  have t1 := (GO.out w4 B4).1.c4
  have t2 := (GO.out w4 B4).2.c4
  go_wp2_with fail
  refine (S4 w4 (bZ.trans (B4.mono bZ.size))).mono ?_
  rintro e w5 ⟨rfl, hb5⟩
  have B5 := B4.trans (hb5.mono B4.size)
  clear t1 t2 S4 hb5 B4
  go_wp2_with fail
  go_ret
  exact ⟨rfl, bZ.trans (B5.mono bZ.size)⟩
end Go.Proofs.YtlnebbciefdpoaaDoor
