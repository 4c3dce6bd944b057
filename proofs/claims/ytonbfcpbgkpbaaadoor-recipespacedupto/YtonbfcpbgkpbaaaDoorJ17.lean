import Derived.Test.YtonbfcpbgkpbaaaDoorJ16
import Derived.Test.YtonbfcpbgkpbaaaDoorJ12
import Derived.Test.YtonbfcpbgkpbaaaDoorRows
import Derived.Test.YtonbfcpbgkpbaaaDoorJ0
import Derived.Lib.SmallJoins
import Derived.Deep.SlicePairs
import Derived.SizedLaws
import Derived.Deep.Strs
section
/- RecipeBack: the walk. -/
namespace Go.Proofs.YtonbfcpbgkpbaaaDoor
open Go.RowKit Go.Sort Go.Joins
set_option linter.unusedVariables false
set_option linter.unusedSimpArgs false
set_option maxRecDepth 100000
theorem textOf_tl (s : ByteArray) : textOf (tl s) = s := by cases s; rfl
theorem tl_textOf (l : List UInt8) : tl (textOf l) = l := rfl
theorem texts_back (ws : List ByteArray) : (ws.map fun w => tl w).map textOf = ws := by
  rw [List.map_map]
  have : (textOf ∘ fun w => tl w) = id := by funext w; exact textOf_tl w
  rw [this, List.map_id]
/-- What is printed is read: the law's own text. -/
theorem parse_back {ws : List ByteArray} {ms : List Mg} {A B C : List Sp} (hm : ms.length ≤ 100) (h0 : (printF ws ms A B C).2 = 0) (hl : (printF ws ms A B C).1.length ≤ 4194304) : parseA (printF ws ms A B C).1 = .ok ⟨ws.map (fun w => tl w), ms, A, B, C⟩ := by
  unfold printF at h0 hl ⊢
  by_cases h1 : wordsOk ws ms = true
  · rw [if_pos h1] at h0 hl ⊢
    by_cases h2 : runesOk A B C = true
    · rw [if_pos h2] at h0 hl ⊢
      have := parse_text (b := []) (c := []) gap_nl blk_nil (by rfl) (by omega) h1 h2 (by simpa using hl)
      simpa using this
    · rw [if_neg h2] at h0
      cases h0
  · rw [if_neg h1] at h0
    cases h0
theorem print_codes (ws : List ByteArray) (ms : List Mg) (A B C : List Sp) : ((printF ws ms A B C).2 = 0) ∨ ((printF ws ms A B C).1 = [] ∧ ((printF ws ms A B C).2 = 21 ∨ (printF ws ms A B C).2 = 14)) := by
  unfold printF
  split
  · split
    · exact .inl rfl
    · exact .inr ⟨rfl, .inr rfl⟩
  · exact .inr ⟨rfl, .inl rfl⟩
theorem lnT_len {l : List Sp} {nm : List UInt8} (hn : nm.length ≤ 8) (h : l.all spOk = true) (hl : l.length ≤ 1048576) : (lnT [10] (clsT nm l)).length ≤ 28311600 := by
  obtain ⟨h1, h2⟩ := cls_len hn h
  have h3 := jn_len _ _ h1 (clsT nm l).length
  unfold lnT
  rw [List.length_append]
  show _ + 1 ≤ _
  omega
theorem print_len {ws : List ByteArray} {ms : List Mg} {A B C : List Sp} (hZ : PrZ ws ms A B C) : (printF ws ms A B C).1.length ≤ 2000000000 := by
  unfold printF
  split
  · split
    · rename_i _ h2
      simp only [runesOk, Bool.and_eq_true] at h2
      show (textF [10] (linesF ws ms A B C)).length ≤ _
      rw [text_all, List.length_append, List.length_append, List.length_append]
      have h3 := accF_len hZ.big ms ms.length (Nat.le_refl _)
      have h4 : ms.length * 18874388 ≤ 100 * 18874388 := Nat.mul_le_mul_right _ hZ.m
      have h5 := lnT_len (nm := nmL) (by decide) h2.1.1 hZ.a
      have h6 := lnT_len (nm := nmN) (by decide) h2.1.2 hZ.b
      have h7 := lnT_len (nm := nmS) (by decide) h2.2 hZ.c
      omega
    · show 0 ≤ _
      omega
  · show 0 ≤ _
    omega
set_option maxHeartbeats 8000000 in
theorem back_walk (aw am a b c : Option Addr) (cw cm ca cb cc : Nat) (ws : List ByteArray) (ms : List Mg) (A B C : List Sp) (w : World) (hD : PrD w aw am a b c ws ms A B C) (hW : ws.length ≤ 1048576) (hM : ms.length ≤ 1048576) (hbig : ∀ x ∈ ws, x.size ≤ 1048576) (hA : A.length ≤ 1048576) (hB : B.length ≤ 1048576) (hC : C.length ≤ 1048576) (hP : PT w) :
    Calls Tryd.prog 4 #[.agg #[.slice aw ws.length cw, .slice am ms.length cm, .slice a A.length ca, .slice b B.length cb, .slice c C.length cc]] w fun e w' => e = .returned (.bool true) ∧ Below w.heap.size w w' := by
  have hX := DBox.new w (.slice aw ws.length cw) (.slice am ms.length cm) (.slice a A.length ca) (.slice b B.length cb) (.slice c C.length cc)
  have hb0 := box_below w (.cells #[.slice aw ws.length cw, .slice am ms.length cm, .slice a A.length ca, .slice b B.length cb, .slice c C.length cc] 26)
  obtain ⟨Y, hY⟩ : ∃ Y, Y = w.alloc (.cells #[.slice aw ws.length cw, .slice am ms.length cm, .slice a A.length ca, .slice b B.length cb, .slice c C.length cc] 26) := ⟨_, rfl⟩
  rw [← hY] at hb0 hX
  have HY := Lib.hid hY
  have hDY := hD.below hb0
  have hPY : PT Y := hP.stays hb0
  have HB0 := Lib.hid hb0
  clear hY hb0 hP hD
  obtain ⟨z, hz⟩ : ∃ z, z = w.heap.size := ⟨_, rfl⟩
  have HZ := Lib.hid hz
  rw [← hz] at hX
  clear hz
  have HD := Lib.hid hX
  obtain ⟨nw, hnw⟩ : ∃ nw, nw = ws.length := ⟨_, rfl⟩
  obtain ⟨nm, hnm⟩ : ∃ nm, nm = ms.length := ⟨_, rfl⟩
  obtain ⟨na, hna⟩ : ∃ na, na = A.length := ⟨_, rfl⟩
  obtain ⟨nb, hnb⟩ : ∃ nb, nb = B.length := ⟨_, rfl⟩
  obtain ⟨nc, hnc⟩ : ∃ nc, nc = C.length := ⟨_, rfl⟩
  by_cases hm : nm ≤ 100
  · have hZ : PrZ ws ms A B C := ⟨hW, by omega, hbig, hA, hB, hC⟩
    have HSZ := Lib.hid hZ
    have HPR := print_any aw am a b c cw cm ca cb cc ws ms A B C Y hDY hZ hPY
    obtain ⟨R, hR⟩ : ∃ R, R = printF ws ms A B C := ⟨_, rfl⟩
    rw [← hR] at HPR
    have hcd := print_codes ws ms A B C
    rw [← hR] at hcd
    have HR := Lib.hid hR
    have HDY := Lib.hid hDY
    have HPY := Lib.hid hPY
    have x0 := hX.c0
    have x1 := hX.c1
    have x2 := hX.c2
    have x3 := hX.c3
    have x4 := hX.c4
    have d0 : decide ((100 : Int) < (nm : Nat)) = false := decide_eq_false (by omega)
    have d1 : decide (100 < nm) = false := decide_eq_false (by omega)
    have HNW := Lib.hid hnw
    have HNM := Lib.hid hnm
    have HNA := Lib.hid hna
    have HNB := Lib.hid hnb
    have HNC := Lib.hid hnc
    rw [← hnw] at x0 HPR HY HD ⊢
    rw [← hnm] at x1 HPR HY HD ⊢
    rw [← hna] at x2 HPR HY HD ⊢
    rw [← hnb] at x3 HPR HY HD ⊢
    rw [← hnc] at x4 HPR HY HD ⊢
    clear hX hDY hPY hR hnw hnm hna hnb hnc hZ hW hM hA hB hC hbig
    go_enter Tryd.func4, Tryd.ntmps4
    go_upto_region 1 with fail
    rw [← HY.out, ← HZ.out]
    clear HY
    go_wp2_with fail
    refine HPR.mono ?_
    rintro e w1 ⟨rfl, hb1⟩
    clear HPR
    obtain ⟨T, E⟩ := R
    simp only at hcd
    have hB1 := HB0.out.trans (hb1.mono HB0.out.size)
    rcases hcd with rfl | ⟨rfl, rfl | rfl⟩
    · have HT := Lib.hid (show (printF ws ms A B C).1 = T ∧ (printF ws ms A B C).2 = 0 by rw [← HR.out]; exact ⟨rfl, rfl⟩)
      by_cases hlong : T.length ≤ 4194304
      · have hpa := parse_back (A := A) (B := B) (C := C) (ws := ws) (by rw [← HNM.out]; exact hm) HT.out.2 (by rw [HT.out.1]; exact hlong)
        rw [HT.out.1] at hpa
        have HPA := fun wx => parse_any (textOf T) (fun _ => (0, 0)) wx (by show T.length ≤ _; omega) (fun y hy => by rw [tl_textOf, hpa] at hy; cases hy)
        rw [tl_textOf, hpa] at HPA
        have HLG := Lib.hid hlong
        have HB1 := Lib.hid hB1
        have HD1 := Lib.hid (HD.out.below hb1 HD.out.lt)
        have HDY1 := Lib.hid (HDY.out.below hb1)
        have HPY1 := Lib.hid (show PT w1 from HPY.out.stays hb1)
        clear hpa hlong hB1 hb1 HD HDY HPY HB0
        go_wp2_with fail
        refine (HPA w1).mono ?_
        rintro e w2 ⟨hb2, vW, vM, vA, vB, vC, rfl, hO⟩
        obtain ⟨xW, cW, rfl⟩ := hO.oW.slice
        obtain ⟨xM, cM, rfl⟩ := hO.oM.slice
        obtain ⟨xA, cA, rfl⟩ := hO.oA.slice
        obtain ⟨xB, cB, rfl⟩ := hO.oB.slice
        obtain ⟨xC, cC, rfl⟩ := hO.oC.slice
        have pW := hO.oW.wsp
        have pM := hO.oM.msp
        have pA := hO.oA.sps
        have pB := hO.oB.sps
        have pC := hO.oC.sps
        simp only at pW pM pA pB pC
        rw [texts_back] at pW
        simp only [List.length_map]
        rw [← HNW.out, ← HNM.out, ← HNA.out, ← HNB.out, ← HNC.out]
        have bx1 := box_below w2 (.cells #[.slice xW nw cW, .slice xM nm cM, .slice xA na cA, .slice xB nb cB, .slice xC nc cC] 26)
        have hx1 := heap_alloc_new w2 (.cells #[.slice xW nw cW, .slice xM nm cM, .slice xA na cA, .slice xB nb cB, .slice xC nc cC] 26)
        obtain ⟨w3, hw3⟩ : ∃ w3, w3 = w2.alloc (.cells #[.slice xW nw cW, .slice xM nm cM, .slice xA na cA, .slice xB nb cB, .slice xC nc cC] 26) := ⟨_, rfl⟩
        have hs3 : w3.heap.size = w2.heap.size + 1 := by rw [hw3]; simp
        rw [← hw3] at bx1 hx1
        have bx2 := box_below w3 (.cells #[.int .i64 0, .int .i64 0, .int .i64 0] 37)
        obtain ⟨w4, hw4⟩ : ∃ w4, w4 = w3.alloc (.cells #[.int .i64 0, .int .i64 0, .int .i64 0] 37) := ⟨_, rfl⟩
        rw [← hw4] at bx2
        have hx2 := (bx2.block w2.heap.size (by omega)).trans hx1
        have hb4 := (hb2.trans (bx1.mono hb2.size)).trans (bx2.mono (by have := hb2.size; omega))
        have hPd : PrD w4 xW xM xA xB xC ws ms A B C := (PrD.mk pW pM pA pB pC).below (bx1.trans (bx2.mono (by omega)))
        have HPd := Lib.hid hPd
        have HPw := Lib.hid (show PT w4 from HPY1.out.stays hb4)
        have HDY4 := Lib.hid (HDY1.out.below hb4)
        have HD4 := Lib.hid (HD1.out.below hb4 HD1.out.lt)
        have HB4 := Lib.hid (HB1.out.trans (hb4.mono HB1.out.size))
        have HW3 := Lib.hid hw3
        have HW4 := Lib.hid hw4
        obtain ⟨y, hy⟩ : ∃ y, y = w2.heap.size := ⟨_, rfl⟩
        rw [← hy] at hx2
        have HYZ := Lib.hid hy
        have y0 := cell_of_block hx2 0
        have y1 := cell_of_block hx2 1
        have y2 := cell_of_block hx2 2
        have y3 := cell_of_block hx2 3
        have y4 := cell_of_block hx2 4
        have HX2 := Lib.hid hx2
        clear hO pW pM pA pB pC bx1 bx2 hx1 hs3 hb2 hb4 hPd hw3 hw4 hy hx2 HPA x0 x1 x2 x3 x4 HD1 HDY1 HPY1 HB1
        go_upto_region 7 with fail
        rw [← HW3.out, ← HW4.out, ← HYZ.out]
        clear HW3 HW4
        have HPR2 := print_any xW xM xA xB xC cW cM cA cB cC ws ms A B C w4 HPd.out HSZ.out HPw.out
        have hR2 : printF ws ms A B C = (T, 0) := HR.out.symm
        rw [hR2, ← HNW.out, ← HNM.out, ← HNA.out, ← HNB.out, ← HNC.out] at HPR2
        clear hR2
        go_wp2_with fail
        refine HPR2.mono ?_
        rintro e w5 ⟨rfl, hb5⟩
        have hPd5 := HPd.out.below hb5
        have hDY5 := HDY4.out.below hb5
        have hD5 := HD4.out.below hb5 HD4.out.lt
        have hx5 := (hb5.block y (Array.getElem?_eq_some_iff.1 HX2.out).1).trans HX2.out
        have y0 := cell_of_block hx5 0
        have y1 := cell_of_block hx5 1
        have y2 := cell_of_block hx5 2
        have y3 := cell_of_block hx5 3
        have y4 := cell_of_block hx5 4
        have x0 := hD5.c0
        have x1 := hD5.c1
        have x2 := hD5.c2
        have x3 := hD5.c3
        have x4 := hD5.c4
        have hZ := HSZ.out
        have hKS := keepSame_any xW xM xA xB xC aw am a b c cW cM cA cB cC cw cm ca cb cc ws ms A B C w5 ⟨by have := hZ.w; omega, by have := hZ.m; omega, by have := hZ.a; omega, by have := hZ.b; omega, by have := hZ.c; omega⟩ hPd5.hW hPd5.hM hPd5.hA hPd5.hB hPd5.hC hDY5.hW hDY5.hM hDY5.hA hDY5.hB hDY5.hC
        rw [← HNW.out, ← HNM.out, ← HNA.out, ← HNB.out, ← HNC.out] at hKS
        have HB5 := Lib.hid (HB4.out.trans (hb5.mono HB4.out.size))
        clear hb5 hPd5 hDY5 hD5 hx5 hZ HPR2 HPd HPw HDY4 HD4 HX2 HB4
        go_wp2_with fail
        refine hKS.mono ?_
        rintro e w6 ⟨rfl, hb6⟩
        have HB6 := Lib.hid (HB5.out.trans (hb6.mono HB5.out.size))
        clear hKS hb6 y0 y1 y2 y3 y4 x0 x1 x2 x3 x4
        have hts : ((textOf T).toList == (textOf T).toList) = true := by simp
        go_wp2_with fail
        refine (known_any w6).mono ?_
        rintro e w7 ⟨rfl, hb7⟩
        go_wp2_with fail
        go_ret
        exact ⟨rfl, HB6.out.trans (hb7.mono HB6.out.size)⟩
      · have hpa := parseA_long (l := T) (by omega)
        have HPA := parse_any (textOf T) (fun y => plT (textOf T) y) w1 (by
          show T.length ≤ _
          have h1 := print_len HSZ.out
          rw [← HR.out] at h1
          have h2 : T.length ≤ 2000000000 := h1
          omega) (fun y hy => by
          rw [tl_textOf, hpa] at hy
          injection hy with hy
          rw [← hy]
          exact fun wx => placeOf_upto (textOf T) 0 (by omega) (by omega) wx)
        rw [tl_textOf, hpa] at HPA
        have d2 : decide ((4194304 : Int) < (T.length : Nat)) = true := decide_eq_true (by omega)
        have d3 : decide (4194304 < T.length) = true := decide_eq_true (by omega)
        have hsz : (textOf T).size = T.length := rfl
        have HB1 := Lib.hid hB1
        clear hpa hlong hB1 hb1 HD HDY HPY HB0
        go_wp2_with fail
        refine HPA.mono ?_
        rintro e w2 ⟨hb2, rfl⟩
        clear HPA
        have hBf := HB1.out.trans (hb2.mono HB1.out.size)
        have hBg := hBf.trans (((box_below w2 (.cells #[.slice none 0 0, .slice none 0 0, .slice none 0 0, .slice none 0 0, .slice none 0 0] 26)).trans ((box_below (w2.alloc (.cells #[.slice none 0 0, .slice none 0 0, .slice none 0 0, .slice none 0 0, .slice none 0 0] 26)) (.cells #[.int .i64 0, .int .i64 ((plT (textOf T) 0).1 : Nat), .int .i64 ((plT (textOf T) 0).2 : Nat)] 37)).mono (by simp))).mono hBf.size)
        have HBF := Lib.hid hBg
        unfold nil5
        clear hBf hb2 x0 x1 x2 x3 x4 hBg
        go_wp2_with fail
        refine (known_any _).mono ?_
        rintro e w7 ⟨rfl, hb7⟩
        go_wp2_with fail
        go_ret
        exact ⟨rfl, HBF.out.trans (hb7.mono HBF.out.size)⟩
    · have HB1 := Lib.hid hB1
      clear hB1 hb1
      have hts : (textOf []).toList.isEmpty = true := by rw [toList_tl]; rfl
      go_wp2_with fail
      refine (known_any _).mono ?_
      rintro e w7 ⟨rfl, hb7⟩
      go_wp2_with fail
      go_ret
      exact ⟨rfl, HB1.out.trans (hb7.mono HB1.out.size)⟩
    · have HB1 := Lib.hid hB1
      clear hB1 hb1
      have hts : (textOf []).toList.isEmpty = true := by rw [toList_tl]; rfl
      go_wp2_with fail
      refine (known_any _).mono ?_
      rintro e w7 ⟨rfl, hb7⟩
      go_wp2_with fail
      go_ret
      exact ⟨rfl, HB1.out.trans (hb7.mono HB1.out.size)⟩
  · have d0 : decide ((100 : Int) < (nm : Nat)) = true := decide_eq_true (by omega)
    have d1 : decide (100 < nm) = true := decide_eq_true (by omega)
    have x1 := hX.c1
    rw [← hnm] at x1 HY ⊢
    clear hX hDY hPY hnw hnm hna hnb hnc hW hM hA hB hC hbig hm
    go_enter Tryd.func4, Tryd.ntmps4
    go_upto_region 1 with fail
    rw [← HY.out, ← HZ.out]
    clear HY
    go_wp2_with fail
    refine (known_any _).mono ?_
    rintro e w7 ⟨rfl, hb7⟩
    go_wp2_with fail
    go_ret
    exact ⟨rfl, HB0.out.trans (hb7.mono HB0.out.size)⟩
end Go.Proofs.YtonbfcpbgkpbaaaDoor
end
section
/- What the bound of the second form gives: of a list, of a text. -/
namespace Go.Proofs.YtonbfcpbgkpbaaaDoor
theorem bulk_pos {H : Type} (d : DataW H) : 1 ≤ Rows.uptoBulk d := by
  cases d with
  | lit l => cases l <;> simp only [Rows.uptoBulk] <;> omega
  | nil => simp only [Rows.uptoBulk]; omega
  | ptr d => simp only [Rows.uptoBulk]; omega
  | slice e s => simp only [Rows.uptoBulk]; omega
  | agg p => simp only [Rows.uptoBulk]; omega
  | iface t d => simp only [Rows.uptoBulk]; omega
  | map e => simp only [Rows.uptoBulk]; omega
  | held h => simp only [Rows.uptoBulk]; omega
theorem bulk_count {H : Type} (l : List (DataW H)) : l.length ≤ Rows.uptoBulkAll l := by
  induction l with
  | nil => exact Nat.zero_le _
  | cons d r ih => have := bulk_pos d; simp only [Rows.uptoBulkAll, List.length_cons]; omega
theorem bulk_slice {H : Type} (e s : List (DataW H)) : e.length + s.length + 1 ≤ Rows.uptoBulk (.slice e s) := by
  have h1 := bulk_count e
  have h2 := bulk_count s
  simp only [Rows.uptoBulk]; omega
theorem bulk_text {H : Type} (s : ByteArray) : Rows.uptoBulk (DataW.lit (H := H) (.string s.data.toList)) = s.size + 1 := by
  have e : s.data.toList.length = s.size := Array.length_toList
  simp only [Rows.uptoBulk, e]
theorem bulk_bound {H : Type} {l : List (DataW H)} (hk : Rows.uptoSmall H l = true) : Rows.uptoBulkAll l ≤ 1048576 := of_decide_eq_true hk
end Go.Proofs.YtonbfcpbgkpbaaaDoor
end
section
/- Models' data that came in: what they hold, how much at most (the second form's bound). -/
namespace Go.Proofs.YtonbfcpbgkpbaaaDoor
open Go.ChangeShapes Go.WideShapes Go.ChangeAt Go.RowKit Go.Deep Go.Joins
set_option linter.unusedVariables false
def fd0 : Field := Field.mk "Words" 22 0 false "" "" 0
def fd1 : Field := Field.mk "Merges" 23 1 false "" "" 24
def fd2 : Field := Field.mk "Letters" 24 2 false "" "" 48
def fd3 : Field := Field.mk "Numbers" 24 3 false "" "" 72
def fd4 : Field := Field.mk "Spaces" 24 4 false "" "" 96
theorem undD : Tryd.prog.underlying 26 = some (.struct #[fd0, fd1, fd2, fd3, fd4]) := by kernel_rfl
theorem cellsD : Tryd.prog.cellsOf 26 = 5 := by kernel_rfl
theorem cellsS30 : Tryd.prog.cellsOf 24 = 1 := by kernel_rfl
theorem cellsS44 : Tryd.prog.cellsOf 22 = 1 := by kernel_rfl
theorem cellsS45 : Tryd.prog.cellsOf 23 = 1 := by kernel_rfl
theorem cells9 : Tryd.prog.cellsOf 9 = 1 := by kernel_rfl
theorem cells3 : Tryd.prog.cellsOf 3 = 1 := by kernel_rfl
theorem cellsMg : Tryd.prog.cellsOf 52 = 3 := by kernel_rfl
def fg0 : Field := Field.mk "Left" 3 0 false "" "" 0
def fg1 : Field := Field.mk "Right" 3 1 false "" "" 8
def fg2 : Field := Field.mk "Id" 3 2 false "" "" 16
theorem undMg : Tryd.prog.underlying 52 = some (.struct #[fg0, fg1, fg2]) := by kernel_rfl
def fsLo : Field := Field.mk "Lo" 21 0 false "" "" 0
def fsHi : Field := Field.mk "Hi" 21 1 false "" "" 4
theorem undSp : Tryd.prog.underlying 31 = some (.struct #[fsLo, fsHi]) := by kernel_rfl
theorem cellsSp : Tryd.prog.cellsOf 31 = 2 := by kernel_rfl
theorem cellsI32 : Tryd.prog.cellsOf 21 = 1 := by kernel_rfl
theorem bulk_elems {H : Type} (e s : List (DataW H)) : Rows.uptoBulkAll e + 1 ≤ Rows.uptoBulk (.slice e s) := by simp only [Rows.uptoBulk]; omega
theorem bulk_mem {H : Type} {d : DataW H} {l : List (DataW H)} (h : d ∈ l) : Rows.uptoBulk d ≤ Rows.uptoBulkAll l := by
  induction l with
  | nil => cases h
  | cons x r ih =>
    simp only [Rows.uptoBulkAll]
    rcases List.mem_cons.1 h with rfl | h
    · omega
    · have := ih h; omega
section
variable {H : Type} {enc : TypeId × Value → H} {W : World} {x : DataW H × List MemPlace}
theorem open_spans {fuel : Nat} {a : Option Addr} {len cap : Nat} (h : DataW.trod enc Tryd.prog W 0 (fun _ => true) true fuel 24 (Value.slice a len cap).cells.toList = some x) :
    ∃ l : List Sp, len = l.length ∧ l.length ≤ cap ∧ cap ≤ 9223372036854775807 ∧ SPS W a l ∧ ∃ e s, x.1 = .slice e s ∧ e.length = l.length ∨ x.1 = .nil ∧ l = [] := by
  rcases open_slice_pairs Tryd.underlying24 undSp cellsSp rfl rfl cellsI32 cellsI32 h with ⟨hcs, rfl⟩ | ⟨b, n, c, m, k, V0, V1, D0, D1, P0, P1, hcs, _, hl, hm, hmm, rfl, hel⟩
  · simp [Value.cells] at hcs
    obtain ⟨rfl, rfl, rfl⟩ := hcs
    exact ⟨[], rfl, Nat.le_refl _, by omega, .inl rfl, [], [], .inr ⟨rfl, rfl⟩⟩
  · simp [Value.cells] at hcs
    obtain ⟨rfl, rfl, rfl⟩ := hcs
    simp only [if_true] at hmm
    subst hmm
    unfold maxLen at hm
    have each : ∀ i, i < len → ∃ q : Sp, W.cell? (b.add (i * 2)) = some (.int .i32 q.lo) ∧ W.cell? (b.add (i * 2 + 1)) = some (.int .i32 q.hi) := by
      intro i hi
      obtain ⟨h0, h1, h2, h3⟩ := hel i (by omega)
      obtain ⟨n0, e0, _, _⟩ := DataW.trod_int Tryd.underlying21 h2
      obtain ⟨n1, e1, _, _⟩ := DataW.trod_int Tryd.underlying21 h3
      simp at e0 e1
      exact ⟨⟨n0, n1⟩, by rw [h0, e0], by rw [h1, e1]⟩
    haveI : Inhabited Sp := ⟨⟨0, 0⟩⟩
    obtain ⟨q, hq⟩ := choose_lt each
    refine ⟨(List.range len).map q, by simp, by simpa using hl, hm, ?_, _, _, .inl ⟨rfl, by simp⟩⟩
    by_cases h0 : len = 0
    · subst h0; exact .inl rfl
    · obtain ⟨blk, off, spot⟩ := b
      have hspot : spot = none := by simpa [Addr.add] using World.cell?_spot (hq 0 (by omega)).1
      subst hspot
      refine .inr ⟨blk, off, rfl, fun i y hy => ?_⟩
      have hi : i < len := by
        have := (List.getElem?_eq_some_iff.1 hy).1
        simpa using this
      rw [List.getElem?_map, List.getElem?_range hi] at hy
      obtain rfl : q i = y := by simpa using hy
      obtain ⟨h1, h2⟩ := hq i hi
      rw [add_plain] at h1 h2
      exact ⟨h1, by rw [Nat.add_assoc]; exact h2⟩
theorem one_slice {t e : TypeId} (ht : Tryd.prog.underlying t = some (.slice e)) {fuel : Nat} {v : Value} {y : DataW H × List MemPlace} (h : DataW.trod enc Tryd.prog W 0 (fun _ => true) true fuel t [v] = some y) : ∃ a n c, v = .slice a n c := by
  rcases DataW.trod_slice ht h with ⟨h1, _⟩ | ⟨a, n, c, _, _, _, _, h1, _⟩
  · exact ⟨none, 0, 0, by simpa using h1⟩
  · exact ⟨some a, n, c, by simpa using h1⟩
/-- What a reading says of a list's weight. -/
def WtN (y : DataW H) (n : Nat) : Prop := ∃ e s, y = .slice e s ∧ e.length = n ∨ y = .nil ∧ n = 0
theorem open_words {fuel : Nat} {a : Option Addr} {len cap : Nat} (h : DataW.trod enc Tryd.prog W 0 (fun _ => true) true fuel 22 [Value.slice a len cap] = some x) :
    ∃ l : List ByteArray, len = l.length ∧ l.length ≤ cap ∧ cap ≤ 9223372036854775807 ∧ WSP W a l ∧ WtN x.1 l.length ∧ ∀ y ∈ l, y.size ≤ Rows.uptoBulk x.1 := by
  rcases open_strs Tryd.underlying22 Tryd.underlying9 cells9 h with ⟨hcs, rfl⟩ | ⟨b, n, c, m, Sx, hcs, _, hl, hm, hmm, rfl, hel⟩
  · simp at hcs
    obtain ⟨rfl, rfl, rfl⟩ := hcs
    exact ⟨[], rfl, Nat.le_refl _, by omega, .inl rfl, ⟨[], [], .inr ⟨rfl, rfl⟩⟩, fun y hy => by simp at hy⟩
  · simp at hcs
    obtain ⟨rfl, rfl, rfl⟩ := hcs
    simp only [if_true] at hmm
    subst hmm
    unfold maxLen at hm
    refine ⟨(List.range len).map Sx, by simp, by simpa using hl, hm, ?_, ⟨_, _, .inl ⟨rfl, by simp⟩⟩, fun y hy => by
      obtain ⟨i, hi, rfl⟩ := List.mem_map.1 hy
      have h1 := bulk_text (H := H) (Sx i)
      have h2 := bulk_mem (H := H) (d := .lit (.string (Sx i).data.toList)) (l := (List.range len).map fun i => .lit (.string (Sx i).data.toList)) (List.mem_map.2 ⟨i, hi, rfl⟩)
      refine Nat.le_trans (?_ : _ ≤ Rows.uptoBulkAll ((List.range len).map fun i => .lit (.string (Sx i).data.toList)) + 1) (bulk_elems _ _)
      omega⟩
    by_cases h0 : len = 0
    · subst h0; exact .inl rfl
    · obtain ⟨blk, off, spot⟩ := b
      have hspot : spot = none := by simpa [Addr.add] using World.cell?_spot (hel 0 (by omega)).1
      subst hspot
      refine .inr ⟨blk, off, rfl, fun i y hy => ?_⟩
      have hi : i < len := by
        have := (List.getElem?_eq_some_iff.1 hy).1
        simpa using this
      rw [List.getElem?_map, List.getElem?_range hi] at hy
      obtain rfl : Sx i = y := by simpa using hy
      have h1 := (hel i (by omega)).1
      rw [add_plain] at h1
      exact h1
set_option maxRecDepth 100000 in
theorem open_merges {fuel : Nat} {a : Option Addr} {len cap : Nat} (h : DataW.trod enc Tryd.prog W 0 (fun _ => true) true fuel 23 [Value.slice a len cap] = some x) :
    ∃ l : List Mg, len = l.length ∧ l.length ≤ cap ∧ cap ≤ 9223372036854775807 ∧ MSP W a l ∧ WtN x.1 l.length := by
  rcases open_slice Tryd.underlying23 h with ⟨hcs, rfl⟩ | ⟨b, n, c, m, k, D, Pl, hcs, _, hl, hm, hmm, rfl, hel⟩
  · simp at hcs
    obtain ⟨rfl, rfl, rfl⟩ := hcs
    exact ⟨[], rfl, Nat.le_refl _, by omega, .inl rfl, [], [], .inr ⟨rfl, rfl⟩⟩
  · simp at hcs
    obtain ⟨rfl, rfl, rfl⟩ := hcs
    simp only [if_true] at hmm
    subst hmm
    unfold maxLen at hm
    have each : ∀ i, i < len → ∃ q : Mg, W.cell? (b.add (i * 3)) = some (.int .i64 q.l) ∧ W.cell? (b.add (i * 3 + 1)) = some (.int .i64 q.r) ∧ W.cell? (b.add (i * 3 + 2)) = some (.int .i64 q.i) ∧ True := by
      intro i hi
      obtain ⟨cs', h1, h2⟩ := hel i (by omega)
      rw [cellsMg] at h1
      obtain ⟨_, hlen, hcell⟩ := World.cells?_some h1
      obtain ⟨xs, k', hk, hxy, _, hxl, hf⟩ := DataW.trod_struct undMg h2
      match xs, hxl, cs', hlen with
      | [y0, y1, y2], _, [v0, v1, v2], _ =>
        have g0 := hf 0 fg0 rfl
        have g1 := hf 1 fg1 rfl
        have g2 := hf 2 fg2 rfl
        simp [fg0, fg1, fg2, cells3] at g0 g1 g2
        have e0 := hcell 0 (by omega)
        have e1 := hcell 1 (by omega)
        have e2 := hcell 2 (by omega)
        rw [add_add] at e0 e1 e2
        obtain ⟨n0, q0, -, w0⟩ := DataW.trod_int Tryd.underlying3 g0
        obtain ⟨n1, q1, -, w1⟩ := DataW.trod_int Tryd.underlying3 g1
        obtain ⟨n2, q2, -, w2⟩ := DataW.trod_int Tryd.underlying3 g2
        simp at q0 q1 q2
        subst q0 q1 q2
        exact ⟨⟨n0, n1, n2⟩, by simpa using e0, by simpa using e1, by simpa using e2, trivial⟩
    haveI : Inhabited Mg := ⟨⟨0, 0, 0⟩⟩
    obtain ⟨q, hq⟩ := choose_lt each
    refine ⟨(List.range len).map q, by simp, by simpa using hl, hm, ?_, _, _, .inl ⟨rfl, by simp⟩⟩
    · by_cases h0 : len = 0
      · subst h0; exact .inl rfl
      · obtain ⟨blk, off, spot⟩ := b
        have hspot : spot = none := by simpa [Addr.add] using World.cell?_spot (hq 0 (by omega)).1
        subst hspot
        refine .inr ⟨blk, off, rfl, fun i y hy => ?_⟩
        have hi : i < len := by
          have := (List.getElem?_eq_some_iff.1 hy).1
          simpa using this
        rw [List.getElem?_map, List.getElem?_range hi] at hy
        obtain rfl : q i = y := by simpa using hy
        obtain ⟨h1, h2, h3, -⟩ := hq i hi
        rw [add_plain] at h1 h2 h3
        exact ⟨h1, by rw [Nat.add_assoc]; exact h2, by rw [Nat.add_assoc]; exact h3⟩
set_option maxRecDepth 100000 in
theorem open_mdata {fuel : Nat} {v : Value} (hv : Value.okWide Tryd.prog W .any 0 26 v) (h : DataW.trod enc Tryd.prog W 0 (fun _ => true) true fuel 26 v.cells.toList = some x) :
    ∃ aw cw am cm a ca b cb c cc, ∃ (ws : List ByteArray) (ms : List Mg) (A B C : List Sp), v = .agg #[.slice aw ws.length cw, .slice am ms.length cm, .slice a A.length ca, .slice b B.length cb, .slice c C.length cc] ∧ WSP W aw ws ∧ MSP W am ms ∧ SPS W a A ∧ SPS W b B ∧ SPS W c C ∧
      ∃ y0 y1 y2 y3 y4, x.1 = .agg [y0, y1, y2, y3, y4] ∧ WtN y0 ws.length ∧ WtN y1 ms.length ∧ WtN y2 A.length ∧ WtN y3 B.length ∧ WtN y4 C.length ∧ ∀ y ∈ ws, y.size ≤ Rows.uptoBulk y0 := by
  obtain ⟨cs, rfl, hsz⟩ := okWide_struct undD hv
  rw [cellsD] at hsz
  obtain ⟨v0, v1, v2, v3, v4, rfl⟩ : ∃ v0 v1 v2 v3 v4, cs = #[v0, v1, v2, v3, v4] := by
    obtain ⟨l⟩ := cs
    have hl : l.length = 5 := hsz
    cases l with
    | nil => simp at hl
    | cons v0 l => cases l with
      | nil => simp at hl
      | cons v1 l => cases l with
        | nil => simp at hl
        | cons v2 l => cases l with
          | nil => simp at hl
          | cons v3 l => cases l with
            | nil => simp at hl
            | cons v4 l => cases l with
              | nil => exact ⟨_, _, _, _, _, rfl⟩
              | cons _ _ => simp at hl
  obtain ⟨xs, n, rfl, hx, -, hn, hel⟩ := DataW.trod_struct undD h
  have h0 := hel 0 fd0 rfl
  have h1 := hel 1 fd1 rfl
  have h2 := hel 2 fd2 rfl
  have h3 := hel 3 fd3 rfl
  have h4 := hel 4 fd4 rfl
  simp only [Value.cells, fd0, fd1, fd2, fd3, fd4, cellsS30, cellsS44, cellsS45, List.drop_zero, List.drop_succ_cons, List.take_succ_cons, List.take_zero] at h0 h1 h2 h3 h4
  have hn : xs.length = 5 := hn
  have g0 : xs[0]? = some xs[0] := List.getElem?_eq_getElem (by omega)
  have g1 : xs[1]? = some xs[1] := List.getElem?_eq_getElem (by omega)
  have g2 : xs[2]? = some xs[2] := List.getElem?_eq_getElem (by omega)
  have g3 : xs[3]? = some xs[3] := List.getElem?_eq_getElem (by omega)
  have g4 : xs[4]? = some xs[4] := List.getElem?_eq_getElem (by omega)
  rw [g0] at h0
  rw [g1] at h1
  rw [g2] at h2
  rw [g3] at h3
  rw [g4] at h4
  obtain ⟨s0, n0, c0, rfl⟩ := one_slice Tryd.underlying22 h0
  obtain ⟨s1, n1, c1, rfl⟩ := one_slice Tryd.underlying23 h1
  obtain ⟨a, na, ca, rfl⟩ := one_slice Tryd.underlying24 h2
  obtain ⟨b, nb, cb, rfl⟩ := one_slice Tryd.underlying24 h3
  obtain ⟨c, nc, cc, rfl⟩ := one_slice Tryd.underlying24 h4
  obtain ⟨ws, rfl, -, -, w3, ew, eb0⟩ := open_words h0
  obtain ⟨ms, rfl, -, -, m3, em⟩ := open_merges h1
  obtain ⟨A, rfl, a1, a2, a3, ea⟩ := open_spans (a := a) (len := na) (cap := ca) h2
  obtain ⟨B, rfl, b1, b2, b3, eb⟩ := open_spans (a := b) (len := nb) (cap := cb) h3
  obtain ⟨C, rfl, c1', c2, c3, ec⟩ := open_spans (a := c) (len := nc) (cap := cc) h4
  have wt : ∀ {y : DataW H} {l : List Sp}, (∃ e s, y = .slice e s ∧ e.length = l.length ∨ y = .nil ∧ l = []) → WtN y l.length := fun h => by
    obtain ⟨e, s, ⟨h1, h2⟩ | ⟨h1, h2⟩⟩ := h
    · exact ⟨e, s, .inl ⟨h1, h2⟩⟩
    · exact ⟨e, s, .inr ⟨h1, by rw [h2]; rfl⟩⟩
  refine ⟨s0, c0, s1, c1, a, ca, b, cb, c, cc, ws, ms, A, B, C, rfl, w3, m3, a3, b3, c3, (xs[0]).1, (xs[1]).1, (xs[2]).1, (xs[3]).1, (xs[4]).1, ?_, ew, em, wt ea, wt eb, wt ec, eb0⟩
  rw [hx]
  simp only
  congr 1
  apply List.ext_getElem (by simpa using hn)
  intro i hi hi'
  have hi5 : i < 5 := by simpa using hi'
  rcases (show i = 0 ∨ i = 1 ∨ i = 2 ∨ i = 3 ∨ i = 4 by omega) with rfl | rfl | rfl | rfl | rfl <;> simp
theorem wt_bulk {y : DataW H} {n : Nat} (h : WtN y n) : n ≤ Rows.uptoBulk y := by
  obtain ⟨e, s, ⟨rfl, h2⟩ | ⟨rfl, h2⟩⟩ := h
  · have := bulk_slice (H := H) e s
    omega
  · rw [h2]; exact Nat.zero_le _
/-- What the bound says of data. -/
theorem data_bulk {y0 y1 y2 y3 y4 : DataW H} {d : DataW H} {l : List (DataW H)} {n0 n1 n2 n3 n4 : Nat} (hk : Rows.uptoSmall H l = true) (hd : d = .agg [y0, y1, y2, y3, y4]) (hm : d ∈ l) (w0 : WtN y0 n0) (w1 : WtN y1 n1) (w2 : WtN y2 n2) (w3 : WtN y3 n3) (w4 : WtN y4 n4) :
    n0 ≤ 1048576 ∧ n1 ≤ 1048576 ∧ n2 ≤ 1048576 ∧ n3 ≤ 1048576 ∧ n4 ≤ 1048576 ∧ Rows.uptoBulk y0 ≤ 1048576 := by
  have h1 := bulk_bound hk
  have h2 := bulk_mem hm
  rw [hd] at h2
  simp only [Rows.uptoBulk, Rows.uptoBulkAll] at h2
  have := wt_bulk w0
  have := wt_bulk w1
  have := wt_bulk w2
  have := wt_bulk w3
  have := wt_bulk w4
  omega
end
end Go.Proofs.YtonbfcpbgkpbaaaDoor
end
