import Derived.Test.YtplmmamebfpcjaaDoorJ21
section
/- FileNumbers: the walk. -/
namespace Go.Proofs.YtplmmamebfpcjaaDoor
open Go.RowKit Go.Sort Go.Joins
set_option linter.unusedVariables false
set_option maxRecDepth 100000
theorem bare31 : bareF.getD 31 0 = 138 := by kernel_rfl
theorem take31_len : (bareF.take 31).length = 31 := by kernel_rfl
theorem bareT_len : (bareF ++ [0]).length = 33 := by kernel_rfl
theorem bareX_get (j : Nat) (h : j < 32) (hj : j ≠ 31) : bareX.getD j 0 = bareF.getD j 0 := by
  unfold bareX
  simp only [List.getD_eq_getElem?_getD]
  rw [List.getElem?_set_ne (fun e => hj e.symm)]
theorem bareX_31 : bareX.getD 31 0 = 139 := by kernel_rfl
/-- The last byte's turn. -/
theorem turned {w : World} {g c : Nat} {base : Nat} (h : Oc.OwnS w base (.slice (some ⟨g, 0, none⟩) 32 c) bareF) : Oc.BS (w.setCell ⟨g, 31, none⟩ (.int .u8 139)) (some ⟨g, 0, none⟩) bareX := by
  obtain ⟨_, _, hv, _, _, _, _, hbs⟩ := h.form (by rw [bareF_len]; decide)
  simp only [Value.slice.injEq, Option.some.injEq, Addr.mk.injEq] at hv
  obtain ⟨⟨rfl, _⟩, _⟩ := hv
  rcases hbs with h0 | ⟨b, off, hx, hc⟩
  · have := bareF_len; rw [h0] at this; cases this
  · simp only [Option.some.injEq, Addr.mk.injEq] at hx
    obtain ⟨rfl, rfl, _⟩ := hx
    refine .inr ⟨_, _, rfl, fun j hj => ?_⟩
    rw [bareX_len] at hj
    have h1 := hc j (by rw [bareF_len]; exact hj)
    rw [Nat.zero_add] at h1 ⊢
    by_cases e : j = 31
    · subst e
      rw [World.cell?_setCell_same (h := h1), bareX_31]
      rfl
    · rw [World.cell?_setCell_other (h := by intro q; simp only [Addr.mk.injEq] at q; exact e q.2.1.symm), bareX_get j hj e]
      exact h1
theorem own_free {w : World} {g n c base : Nat} {l : List UInt8} (h : Oc.OwnS w base (.slice (some ⟨g, 0, none⟩) n c) l) (j : Nat) (hl : 0 < l.length) : w.frozen? ⟨g, j, none⟩ = false := by
  rcases h.2 with ⟨h0, _⟩ | ⟨g', cap, cur, hv, hg, hh, _⟩
  · cases h0
  · simp only [Value.slice.injEq, Option.some.injEq, Addr.mk.injEq] at hv
    obtain ⟨⟨rfl, _⟩, _⟩ := hv
    exact unfrozen_of_block hh j
theorem long_pack : ∃ (Z : Array Value) (L : List UInt8), L.length = 4194305 ∧ loadR L = .error (0, 3) ∧ (∀ u : World, (Instr.makeSlice 22 (.int .i64 4194305) (.int .i64 4194305)).run Tryd.prog u = .ok (.slice (some ⟨u.heap.size, 0, none⟩) 4194305 4194305) (u.alloc (.cells Z 5))) ∧ ∀ u : World, Oc.BS (u.alloc (.cells Z 5)) (some ⟨u.heap.size, 0, none⟩) L := by
  obtain ⟨Z, h1, h2⟩ := make_long
  exact ⟨Z, _, List.length_replicate .., load_long, h1, h2⟩
set_option maxHeartbeats 8000000 in
theorem fnum_walk (w : World) (hG : GL w) (hP : PT w) : Calls Tryd.prog 3 #[] w fun e w' => e = .returned (.bool true) ∧ Below w.heap.size w w' := by
  have H0 := lawBare_any w hG
  obtain ⟨LZ, LL, hLL, hLD, hmk, hLZ⟩ := long_pack
  have HLL := Lib.hid hLL
  clear hLL
  go_enter Tryd.func3, Tryd.ntmps3
  go_wp2_with fail
  refine H0.mono ?_
  rintro e A ⟨v, rfl, ho, bA⟩
  obtain ⟨g1, c1, rfl, q1, q2, q3, q4, fA⟩ := ho.form (by rw [bareF_len]; decide)
  rw [bareF_len] at q3 ⊢
  clear H0 ho q1 q2
  go_wp2_with fail
  refine (save_nil A).mono ?_
  rintro e wz ⟨rfl, he⟩
  obtain rfl := he.symm
  have H := load_any none 0 ([] : List UInt8) A (by decide) (by decide) (.inl rfl) (hG.below bA)
  rw [show ([] : List UInt8).length = 0 by rfl] at H
  go_wp2_with fail
  refine H.mono ?_
  rintro e B ⟨hq, hb⟩
  obtain ⟨N0, rfl, n0, r0⟩ := loadQ_err ld0 hq
  have bB := bA.trans (hb.mono bA.size)
  have fB := fA.below hb
  clear H hq hb bA fA
  have hcv := run_convert_bytes_const_at (P := Tryd.prog) B 22 5 #[.int .u8 66, .int .u8 80] 2 2 B.heap.size rfl Tryd.underlying22 Tryd.underlying5
  have hb := (Below.refl B.heap.size B).alloc (Nat.le_refl _) (.cells #[.int .u8 66, .int .u8 80] 5 (2, 3))
  have hs : Oc.BS (B.alloc (.cells #[.int .u8 66, .int .u8 80] 5 (2, 3))) (some ⟨B.heap.size, 0, none⟩) [66, 80] := Oc.BS.marked B [66, 80] 5 (2, 3)
  go_wp2_with fail
  obtain ⟨C, hC⟩ : ∃ C, C = B.alloc (.cells #[.int .u8 66, .int .u8 80] 5 (2, 3)) := ⟨_, rfl⟩
  rw [← hC] at hb hs ⊢
  have bC := bB.trans (hb.mono bB.size)
  have fC := fB.below hb
  have r0 := r0.below hb r0.lt
  clear hcv hb hC bB fB
  have H := load_any (some ⟨B.heap.size, 0, none⟩) 2 ([66, 80] : List UInt8) C (by decide) (by decide) (hs) (hG.below bC)
  rw [show ([66, 80] : List UInt8).length = 2 by rfl] at H
  refine H.mono ?_
  rintro e D ⟨hq, hb⟩
  obtain ⟨N1, rfl, n1, r1⟩ := loadQ_err ldBP hq
  have bD := bC.trans (hb.mono bC.size)
  have fD := fC.below hb
  have r0 := r0.below hb r0.lt
  clear H hq hb bC fC
  have H := load_any (some ⟨g1, 0, none⟩) c1 (bareF.take 31) D (by rw [take31_len]; decide) (by rw [take31_len]; omega) (fD.take 31) (hG.below bD)
  rw [take31_len] at H
  go_wp2_with fail
  refine H.mono ?_
  rintro e E ⟨hq, hb⟩
  obtain ⟨N2, rfl, n2, r2⟩ := loadQ_err ld31 hq
  have bE := bD.trans (hb.mono bD.size)
  have fE := fD.below hb
  have r0 := r0.below hb r0.lt
  have r1 := r1.below hb r1.lt
  clear H hq hb bD fD
  have gfE := fE
  have r0E := r0
  have r1E := r1
  have r2E := r2
  have ho := own_none E
  have hb := box_below E (.cells #[] 5 (0, 0))
  obtain ⟨E1, hX⟩ : ∃ E1, E1 = E.alloc (.cells #[] 5 (0, 0)) := ⟨_, rfl⟩
  rw [← hX] at ho hb
  have fX := fE.below hb
  obtain ⟨v1, E2, ha, ho1, hb1⟩ := Oc.run_own_bytes E1 E.heap.size _ [] bareF (some ⟨g1, 0, none⟩) c1 ho fX (by intro h; cases h) hb.size (by rw [bareF_len]; decide)
  rw [bareF_len, hX] at ha
  rw [List.nil_append] at ho1
  have bE2 := bE.trans ((hb.trans hb1).mono bE.size)
  have fE2 := fE.below (hb.trans hb1)
  have r0 := r0.below (hb.trans hb1) r0.lt
  have r1 := r1.below (hb.trans hb1) r1.lt
  have r2 := r2.below (hb.trans hb1) r2.lt
  clear ho fX fE
  have hX1 := own_none E2
  obtain ⟨gt, ct, rfl, t1, t2, t3, t4, -⟩ := ho1.form (by rw [bareF_len]; decide)
  rw [bareF_len] at ha t3
  have hz := box_below E2 (.cells #[.int .u8 0] 5 (0, 0))
  have hzs := Oc.BS.new E2 [0] 5
  obtain ⟨E3, hE3⟩ : ∃ E3, E3 = E2.alloc (.cells #[.int .u8 0] 5 (0, 0)) := ⟨_, rfl⟩
  have hzs : Oc.BS E3 (some ⟨E2.heap.size, 0, none⟩) [0] := by rw [hE3]; exact hzs
  rw [← hE3] at hz
  have ho2 := ho1.below hz (Nat.le_refl _)
  obtain ⟨v2, F, ha2, ho3, hb2⟩ := Oc.run_own_bytes E3 E.heap.size _ bareF [0] (some ⟨E2.heap.size, 0, none⟩) 1 ho2 hzs (by intro h; cases h) (Nat.le_trans (Nat.le_trans hb.size hb1.size) hz.size) (by rw [bareF_len]; decide)
  rw [hE3] at ha2
  rw [bareF_len, show ([0] : List UInt8).length = 1 from rfl] at ha2
  obtain ⟨gu, cu, rfl, u1, u2, u3, u4, fu⟩ := ho3.form (by rw [bareT_len]; decide)
  rw [bareT_len] at ha2 u3
  have hs := (hb.trans hb1).size
  have hbF := (hb.trans hb1).trans ((hz.mono hs).trans hb2)
  have bF := bE.trans (hbF.mono bE.size)
  have fF := gfE.below hbF
  have s0 := r0E.below hbF r0E.lt
  have s1 := r1E.below hbF r1E.lt
  have s2 := r2E.below hbF r2E.lt
  clear hX1 hzs ho2 ho1 ho3 hz hb2 hb hb1 r0 r1 r2 r0E r1E r2E bE2 fE2 hbF gfE hs bE
  go_wp2_with (first | (at_builtin; refine wpList_append_run rfl (.tmp 41) (.tmp 42) 22 22 rfl _ _ rfl rfl _ E2 ha ?_; clear ha) | (at_builtin; refine wpList_append_run rfl (.tmp 43) (.tmp 44) 22 22 rfl _ _ rfl rfl _ F ha2 ?_; clear ha2))
  have r0 := s0
  have r1 := s1
  have r2 := s2
  clear s0 s1 s2 hE3 hX
  have H := load_any (some ⟨gu, 0, none⟩) cu (bareF ++ [0]) F (by rw [bareT_len]; decide) (by rw [bareT_len]; omega) (fu) (hG.below bF)
  rw [bareT_len] at H
  refine H.mono ?_
  rintro e G ⟨hq, hb⟩
  obtain ⟨N3, rfl, n3, r3⟩ := loadQ_err ldT hq
  have bG := bF.trans (hb.mono bF.size)
  have fG := fF.below hb
  have r0 := r0.below hb r0.lt
  have r1 := r1.below hb r1.lt
  have r2 := r2.below hb r2.lt
  clear H hq hb bF fF
  have l0 := r0.lt
  have l1 := r1.lt
  have l2 := r2.lt
  have l3 := r3.lt
  clear u1 u2 u3 u4 fu t1 t2 t3 t4
  have ho := own_none G
  have hb := box_below G (.cells #[] 5 (0, 0))
  obtain ⟨G1, hX⟩ : ∃ G1, G1 = G.alloc (.cells #[] 5 (0, 0)) := ⟨_, rfl⟩
  rw [← hX] at ho hb
  have fX := fG.below hb
  obtain ⟨v1, H, ha, ho1, hb1⟩ := Oc.run_own_bytes G1 G.heap.size _ [] bareF (some ⟨g1, 0, none⟩) c1 ho fX (by intro h; cases h) hb.size (by rw [bareF_len]; decide)
  rw [bareF_len, hX] at ha
  rw [List.nil_append] at ho1
  have bH := bG.trans ((hb.trans hb1).mono bG.size)
  have fH := fG.below (hb.trans hb1)
  have r0 := r0.below (hb.trans hb1) r0.lt
  have r1 := r1.below (hb.trans hb1) r1.lt
  have r2 := r2.below (hb.trans hb1) r2.lt
  have r3 := r3.below (hb.trans hb1) r3.lt
  clear ho fX fG
  obtain ⟨gv, cv, rfl, x1, x2, x3, x4, fv⟩ := ho1.form (by rw [bareF_len]; decide)
  rw [bareF_len] at ha x3 ho1
  have hfz := own_free ho1 31 (by rw [bareF_len]; decide)
  have hce : H.cell? ⟨gv, 31, none⟩ = some (.int .u8 138) := by
    have := fv.cells 31 (.int .u8 138) (by rw [Oc.cellsOf_get _ 31 (by rw [bareF_len]; decide), bare31]; rfl)
    exact this
  have ht := turned ho1
  have bG0 := bG.size
  clear hb hb1 ho1 fv bG hX
  go_wp2_with (at_builtin; refine wpList_append_run rfl (.tmp 49) (.tmp 50) 22 22 rfl _ _ rfl rfl _ H ha ?_; clear ha)
  have hxx : Go.bits BinOp.xor IntKind.u8 138 1 = 139 := by rfl
  rw [hxx]
  have bJ := bH.setCell (p := ⟨gv, 31, none⟩) (show w.heap.size ≤ gv from Nat.le_trans bG0 x1) (.int .u8 139)
  have hJn : ∀ k, k ≠ gv → (H.setCell ⟨gv, 31, none⟩ (.int .u8 139)).heap[k]? = H.heap[k]? := fun k hk => Below.heap_setCell _ _ _ k (fun e => hk e)
  have s0 : Rf (H.setCell ⟨gv, 31, none⟩ (.int .u8 139)) N0 (0, 11) := (hJn N0 (by omega)).trans r0
  have s1 : Rf (H.setCell ⟨gv, 31, none⟩ (.int .u8 139)) N1 (2, 11) := (hJn N1 (by omega)).trans r1
  have s2 : Rf (H.setCell ⟨gv, 31, none⟩ (.int .u8 139)) N2 (31, 10) := (hJn N2 (by omega)).trans r2
  have s3 : Rf (H.setCell ⟨gv, 31, none⟩ (.int .u8 139)) N3 (32, 13) := (hJn N3 (by omega)).trans r3
  obtain ⟨J, hJ⟩ : ∃ J, J = H.setCell ⟨gv, 31, none⟩ (.int .u8 139) := ⟨_, rfl⟩
  rw [← hJ] at ht bJ s0 s1 s2 s3 ⊢
  have r0 := s0
  have r1 := s1
  have r2 := s2
  have r3 := s3
  have fJ := ht
  clear hJ hJn s0 s1 s2 s3 hxx hce hfz bH fH l0 l1 l2 l3
  have H := load_any (some ⟨gv, 0, none⟩) cv bareX J (by rw [bareX_len]; decide) (by rw [bareX_len]; omega) (ht) (hG.below bJ)
  rw [bareX_len] at H
  refine H.mono ?_
  rintro e K ⟨hq, hb⟩
  obtain ⟨N4, rfl, n4, r4⟩ := loadQ_err ldX hq
  have bK := bJ.trans (hb.mono bJ.size)
  have fK := fJ.below hb
  have r0 := r0.below hb r0.lt
  have r1 := r1.below hb r1.lt
  have r2 := r2.below hb r2.lt
  have r3 := r3.below hb r3.lt
  clear H hq hb bJ fJ
  have hb := box_below K (.cells LZ 5 (0, 0))
  have hs := hLZ K
  have hmk := hmk K
  go_wp2_with fail
  obtain ⟨M, hM⟩ : ∃ M, M = K.alloc (.cells LZ 5 (0, 0)) := ⟨_, rfl⟩
  rw [← hM] at hb hs ⊢
  have bM := bK.trans (hb.mono bK.size)
  have fM := fK.below hb
  have r0 := r0.below hb r0.lt
  have r1 := r1.below hb r1.lt
  have r2 := r2.below hb r2.lt
  have r3 := r3.below hb r3.lt
  have r4 := r4.below hb r4.lt
  clear hmk hLZ hb hM bK fK
  have H := load_any (some ⟨K.heap.size, 0, none⟩) 4194305 LL M (by rw [HLL.out]; decide) (by rw [HLL.out]; omega) (hs) (hG.below bM)
  rw [HLL.out] at H
  refine H.mono ?_
  rintro e P ⟨hq, hb⟩
  obtain ⟨N5, rfl, n5, r5⟩ := loadQ_err hLD hq
  have bP := bM.trans (hb.mono bM.size)
  have fP := fM.below hb
  have r0 := r0.below hb r0.lt
  have r1 := r1.below hb r1.lt
  have r2 := r2.below hb r2.lt
  have r3 := r3.below hb r3.lt
  have r4 := r4.below hb r4.lt
  clear H hq hb bM fM
  clear fP HLL hLD
  have H := refused_true P N0 (0, 11) r0 (by decide) (by decide) (by decide) (hP.stays bP)
  go_wp2_with fail
  refine H.mono ?_
  rintro e Q0 ⟨rfl, hb⟩
  have bQ0 := bP.trans (hb.mono bP.size)
  have r1 := r1.below hb r1.lt
  have r2 := r2.below hb r2.lt
  have r3 := r3.below hb r3.lt
  have r4 := r4.below hb r4.lt
  have r5 := r5.below hb r5.lt
  clear H hb bP
  have H := refused_true Q0 N1 (2, 11) r1 (by decide) (by decide) (by decide) (hP.stays bQ0)
  go_wp2_with fail
  refine H.mono ?_
  rintro e Q1 ⟨rfl, hb⟩
  have bQ1 := bQ0.trans (hb.mono bQ0.size)
  have r2 := r2.below hb r2.lt
  have r3 := r3.below hb r3.lt
  have r4 := r4.below hb r4.lt
  have r5 := r5.below hb r5.lt
  clear H hb bQ0
  have H := refused_true Q1 N2 (31, 10) r2 (by decide) (by decide) (by decide) (hP.stays bQ1)
  go_wp2_with fail
  refine H.mono ?_
  rintro e Q2 ⟨rfl, hb⟩
  have bQ2 := bQ1.trans (hb.mono bQ1.size)
  have r3 := r3.below hb r3.lt
  have r4 := r4.below hb r4.lt
  have r5 := r5.below hb r5.lt
  clear H hb bQ1
  have H := refused_true Q2 N3 (32, 13) r3 (by decide) (by decide) (by decide) (hP.stays bQ2)
  go_wp2_with fail
  refine H.mono ?_
  rintro e Q3 ⟨rfl, hb⟩
  have bQ3 := bQ2.trans (hb.mono bQ2.size)
  have r4 := r4.below hb r4.lt
  have r5 := r5.below hb r5.lt
  clear H hb bQ2
  have H := refused_true Q3 N4 (28, 12) r4 (by decide) (by decide) (by decide) (hP.stays bQ3)
  go_wp2_with fail
  refine H.mono ?_
  rintro e Q4 ⟨rfl, hb⟩
  have bQ4 := bQ3.trans (hb.mono bQ3.size)
  have r5 := r5.below hb r5.lt
  clear H hb bQ3
  have H := refused_true Q4 N5 (0, 3) r5 (by decide) (by decide) (by decide) (hP.stays bQ4)
  go_wp2_with fail
  refine H.mono ?_
  rintro e Q5 ⟨rfl, hb⟩
  have bQ5 := bQ4.trans (hb.mono bQ4.size)
  clear H hb bQ4
  have H := lawKnown_any Q5 (hG.below bQ5) (hP.stays bQ5)
  go_wp2_with fail
  refine H.mono ?_
  rintro e Z ⟨rfl, hb⟩
  have bZ := bQ5.trans (hb.mono bQ5.size)
  clear H hb bQ5
  go_wp2_with fail
  go_ret
  exact ⟨rfl, bZ⟩
end Go.Proofs.YtplmmamebfpcjaaDoor
end
