import Derived.Test.YtonbfcpbgkpbaabDoorJ14
import Derived.Test.YtonbfcpbgkpbaabDoorJ11
import Derived.Test.YtonbfcpbgkpbaabDoorJ12
import Derived.Test.YtonbfcpbgkpbaabDoorJ3
import Derived.Test.YtonbfcpbgkpbaabDoorJ9
import Derived.Test.YtonbfcpbgkpbaabDoorJ10
section
/- recipe.Print for all data: its contract. -/
namespace Go.Proofs.YtonbfcpbgkpbaabDoor
open Go.RowKit Go.Sort Go.Joins
set_option linter.unusedVariables false
set_option linter.unusedSimpArgs false
set_option maxRecDepth 100000
/-- What Print's argument is, in a world. -/
structure PrD (w : World) (aw am a b c : Option Addr) (ws : List ByteArray) (ms : List Mg) (A B C : List Sp) : Prop where
  hW : WSP w aw ws
  hM : MSP w am ms
  hA : SPS w a A
  hB : SPS w b B
  hC : SPS w c C
theorem PrD.below {w w' : World} {aw am a b c : Option Addr} {ws : List ByteArray} {ms : List Mg} {A B C : List Sp} (h : PrD w aw am a b c ws ms A B C) (hb : Below w.heap.size w w') : PrD w' aw am a b c ws ms A B C :=
  ⟨h.hW.below hb, h.hM.below hb, h.hA.below hb, h.hB.below hb, h.hC.below hb⟩
/-- Sizes that are met. -/
structure PrZ (ws : List ByteArray) (ms : List Mg) (A B C : List Sp) : Prop where
  w : ws.length ≤ 1048576
  m : ms.length ≤ 100
  big : ∀ x ∈ ws, x.size ≤ 1048576
  a : A.length ≤ 1048576
  b : B.length ≤ 1048576
  c : C.length ≤ 1048576
set_option maxHeartbeats 8000000 in
theorem print_any (aw am a b c : Option Addr) (cw cm ca cb cc : Nat) (ws : List ByteArray) (ms : List Mg) (A B C : List Sp) (w : World) (hD : PrD w aw am a b c ws ms A B C) (hZ : PrZ ws ms A B C) (hP : PT w) :
    Calls Tryd.prog 5 #[.agg #[.slice aw ws.length cw, .slice am ms.length cm, .slice a A.length ca, .slice b B.length cb, .slice c C.length cc]] w fun e w' => e = .returned (.tuple #[.string (textOf (printF ws ms A B C).1), .int .i64 ((printF ws ms A B C).2 : Nat)]) ∧ Below w.heap.size w w' := by
  obtain ⟨R, hR⟩ : ∃ R, R = printF ws ms A B C := ⟨_, rfl⟩
  have HR := Lib.hid hR
  rw [← hR]
  clear hR
  have hX := DBox.new w (.slice aw ws.length cw) (.slice am ms.length cm) (.slice a A.length ca) (.slice b B.length cb) (.slice c C.length cc)
  have hb0 := box_below w (.cells #[.slice aw ws.length cw, .slice am ms.length cm, .slice a A.length ca, .slice b B.length cb, .slice c C.length cc] 26)
  obtain ⟨Y, hY⟩ : ∃ Y, Y = w.alloc (.cells #[.slice aw ws.length cw, .slice am ms.length cm, .slice a A.length ca, .slice b B.length cb, .slice c C.length cc] 26) := ⟨_, rfl⟩
  rw [← hY] at hb0 hX
  have HY := Lib.hid hY
  have hDY := hD.below hb0
  have HPY := Lib.hid (show PT Y from hP.stays hb0)
  have HB0 := Lib.hid hb0
  clear hY hb0 hP hD
  obtain ⟨z, hz⟩ : ∃ z, z = w.heap.size := ⟨_, rfl⟩
  have HZ := Lib.hid hz
  rw [← hz] at hX
  clear hz
  have HD := Lib.hid hX
  have HDY := Lib.hid hDY
  have HSZ := Lib.hid hZ
  have x0 := hX.c0
  have x1 := hX.c1
  have hmf : ∀ (fn : Fn) (first cap : Array Value) (w : World), (Instr.makeFunc fn first cap).run Tryd.prog w = .ok (.func fn first cap) w := fun _ _ _ _ => rfl
  have hU := unlike_any aw cw ws Y hDY.hW (by have := hZ.w; omega) (fun x hx => by have := hZ.big x hx; omega)
  obtain ⟨nw, hnw⟩ : ∃ nw, nw = ws.length := ⟨_, rfl⟩
  obtain ⟨nm, hnm⟩ : ∃ nm, nm = ms.length := ⟨_, rfl⟩
  have HNW := Lib.hid hnw
  have HNM := Lib.hid hnm
  rw [← hnw] at x0 hU HY HD ⊢
  rw [← hnm] at x1 HY HD ⊢
  clear hX hDY hZ hnw hnm
  go_enter Tryd.func5, Tryd.ntmps5
  go_upto_region 2 with fail
  rw [← HY.out, ← HZ.out]
  clear HY
  by_cases hl : nw = nm
  · have q0 : (((nw : Nat) : Int) != ((nm : Nat) : Int)) = false := by simp; omega
    have HL := Lib.hid hl
    clear hl
    obtain ⟨tu, htu⟩ : ∃ t, t = unlikeF ws := ⟨_, rfl⟩
    rw [← htu] at hU
    have HTU := Lib.hid htu
    clear htu
    cases tu with
    | false =>
      go_wp2_with fail
      refine hU.mono ?_
      rintro e w1 ⟨rfl, hb1⟩
      clear hU
      go_wp2_with fail
      go_ret2
      refine ⟨?_, HB0.out.trans (hb1.mono HB0.out.size)⟩
      rw [HR.out]
      unfold printF wordsOk
      rw [← HTU.out]
      simp
      rfl
    | true =>
      go_wp2_with fail
      refine hU.mono ?_
      rintro e w1 ⟨rfl, hb1⟩
      have hD1 := HD.out.below hb1 HD.out.lt
      have HD1 := Lib.hid hD1
      have HB1 := Lib.hid (HB0.out.trans (hb1.mono HB0.out.size))
      have hDY1 := HDY.out.below hb1
      have HDY1 := Lib.hid hDY1
      have HPY1 := Lib.hid (show PT w1 from HPY.out.stays hb1)
      have x1 := hD1.c1
      have x00 := hD1.c0
      rw [HNW.out] at x00
      have hMa := made_any z am aw cm cw ms ws w1 hD1.lt x00 hDY1.hW hDY1.hM (by rw [← HNW.out, ← HNM.out]; exact HL.out) (by have := HSZ.out.m; omega) (fun x hx => by have := HSZ.out.big x hx; omega)
      obtain ⟨tm, htm⟩ : ∃ t, t = madeF ws (256 + ms.length) ms (fun j => decide (j < 256)) := ⟨_, rfl⟩
      rw [← htm, ← HNM.out] at hMa
      have HTM := Lib.hid htm
      clear hU hb1 HD HB0 hD1 hDY1 x00 x0 HDY HPY htm
      cases tm with
      | false =>
        go_wp2_with fail
        refine hMa.mono ?_
        rintro e w2 ⟨rfl, hb2⟩
        clear hMa
        go_wp2_with fail
        go_ret2
        refine ⟨?_, HB1.out.trans (hb2.mono HB1.out.size)⟩
        rw [HR.out]
        unfold printF wordsOk
        rw [← HTM.out]
        simp
        rfl
      | true =>
        go_wp2_with fail
        refine hMa.mono ?_
        rintro e w2 ⟨rfl, hb2⟩
        clear hMa
        have hwok : wordsOk ws ms = true := by
          unfold wordsOk
          rw [← HTM.out, ← HTU.out]
          simp
          rw [← HNW.out, ← HNM.out]
          exact HL.out
        have HWOK := Lib.hid hwok
        have hD2 := HD1.out.below hb2 HD1.out.lt
        have HD2 := Lib.hid hD2
        have HB2 := Lib.hid (HB1.out.trans (hb2.mono HB1.out.size))
        have hDY2 := HDY1.out.below hb2
        have HDY2 := Lib.hid hDY2
        have HPY2 := Lib.hid (show PT w2 from HPY1.out.stays hb2)
        have x2 := hD2.c2
        have x3 := hD2.c3
        have x4 := hD2.c4
        have x1 := hD2.c1
        have hR1 := runes_any a ca A w2 hDY2.hA (by have := HSZ.out.a; omega)
        have hR2 := runes_any b cb B w2 hDY2.hB (by have := HSZ.out.b; omega)
        have hR3 := runes_any c cc C w2 hDY2.hC (by have := HSZ.out.c; omega)
        have hrk : runesOk A B C = (A.all spOk && B.all spOk && C.all spOk) := rfl
        obtain ⟨t1, ht1⟩ : ∃ t, t = A.all spOk := ⟨_, rfl⟩
        obtain ⟨t2, ht2⟩ : ∃ t, t = B.all spOk := ⟨_, rfl⟩
        obtain ⟨t3, ht3⟩ : ∃ t, t = C.all spOk := ⟨_, rfl⟩
        rw [← ht1] at hR1 hrk
        rw [← ht2] at hR2 hrk
        rw [← ht3] at hR3 hrk
        have HT1 := Lib.hid ht1
        have HT2 := Lib.hid ht2
        have HT3 := Lib.hid ht3
        have HRK := Lib.hid hrk
        clear hb2 HD1 HB1 hD2 hDY2 HDY1 HPY1 ht1 ht2 ht3 hrk hwok
        cases t1 with
        | false =>
          go_wp2_with fail
          refine hR1.mono ?_
          rintro e w3 ⟨rfl, hb3⟩
          clear hR1
          go_wp2_with fail
          go_ret2
          refine ⟨?_, HB2.out.trans (hb3.mono HB2.out.size)⟩
          rw [HR.out]
          unfold printF
          rw [HWOK.out, HRK.out]
          rfl
        | true =>
        cases t2 with
        | false =>
          go_wp2_with fail
          refine hR1.mono ?_
          rintro e w3 ⟨rfl, hb3⟩
          clear hR1
          have hR2 := runes_any b cb B w3 (HDY2.out.hB.below hb3) (by have := HSZ.out.b; omega)
          rw [← HT2.out] at hR2
          have x3 := (HD2.out.below hb3 HD2.out.lt).c3
          go_wp2_with fail
          refine hR2.mono ?_
          rintro e w4 ⟨rfl, hb4⟩
          have hb4 := hb3.trans (hb4.mono hb3.size)
          clear hR2
          go_wp2_with fail
          go_ret2
          refine ⟨?_, HB2.out.trans (hb4.mono HB2.out.size)⟩
          rw [HR.out]
          unfold printF
          rw [HWOK.out, HRK.out]
          rfl
        | true =>
        cases t3 with
        | false =>
          go_wp2_with fail
          refine hR1.mono ?_
          rintro e w3 ⟨rfl, hb3⟩
          clear hR1
          have hR2 := runes_any b cb B w3 (HDY2.out.hB.below hb3) (by have := HSZ.out.b; omega)
          rw [← HT2.out] at hR2
          have x3 := (HD2.out.below hb3 HD2.out.lt).c3
          go_wp2_with fail
          refine hR2.mono ?_
          rintro e w4 ⟨rfl, hb4⟩
          have hb4 := hb3.trans (hb4.mono hb3.size)
          clear hR2
          have hR3 := runes_any c cc C w4 (HDY2.out.hC.below hb4) (by have := HSZ.out.c; omega)
          rw [← HT3.out] at hR3
          have x4 := (HD2.out.below hb4 HD2.out.lt).c4
          go_wp2_with fail
          refine hR3.mono ?_
          rintro e w5 ⟨rfl, hb5⟩
          have hb5 := hb4.trans (hb5.mono hb4.size)
          clear hR3
          go_wp2_with fail
          go_ret2
          refine ⟨?_, HB2.out.trans (hb5.mono HB2.out.size)⟩
          rw [HR.out]
          unfold printF
          rw [HWOK.out, HRK.out]
          rfl
        | true =>
          go_wp2_with fail
          refine hR1.mono ?_
          rintro e w3 ⟨rfl, hb3⟩
          clear hR1
          have hR2 := runes_any b cb B w3 (HDY2.out.hB.below hb3) (by have := HSZ.out.b; omega)
          rw [← HT2.out] at hR2
          have x3 := (HD2.out.below hb3 HD2.out.lt).c3
          go_wp2_with fail
          refine hR2.mono ?_
          rintro e w4 ⟨rfl, hb4⟩
          have hb4 := hb3.trans (hb4.mono hb3.size)
          clear hR2
          have hR3 := runes_any c cc C w4 (HDY2.out.hC.below hb4) (by have := HSZ.out.c; omega)
          rw [← HT3.out] at hR3
          have x4 := (HD2.out.below hb4 HD2.out.lt).c4
          go_wp2_with fail
          refine hR3.mono ?_
          rintro e w5 ⟨rfl, hb5⟩
          have hb5 := hb4.trans (hb5.mono hb4.size)
          clear hR3 hb3 hb4
          have hD5 := HD2.out.below hb5 HD2.out.lt
          have HD5 := Lib.hid hD5
          have HB5 := Lib.hid (HB2.out.trans (hb5.mono HB2.out.size))
          have HDY5 := Lib.hid (HDY2.out.below hb5)
          have HPY5 := Lib.hid (show PT w5 from HPY2.out.stays hb5)
          have HTXT := Lib.hid (show R = (textF [10] (linesF ws ms A B C), 0) by
            rw [HR.out]
            unfold printF
            rw [HWOK.out, HRK.out]
            rfl)
          clear hD5 hb5 HD2 HB2 HDY2 HPY2 x1 x2 x3 x4 hR2 hR3 HR
          have hbl := heap_alloc_new w5 (.cells #[.pointer none, .slice none 0 0] 53)
          have hbb := box_below w5 (.cells #[.pointer none, .slice none 0 0] 53)
          obtain ⟨V, hV⟩ : ∃ V, V = w5.alloc (.cells #[.pointer none, .slice none 0 0] 53) := ⟨_, rfl⟩
          have hVs : V.heap.size = w5.heap.size + 1 := by rw [hV]; simp
          rw [← hV] at hbl hbb
          have HV := Lib.hid hV
          clear hV
          obtain ⟨bb, hbz⟩ : ∃ bb, bb = w5.heap.size := ⟨_, rfl⟩
          rw [← hbz] at hbl hVs
          have HBZ := Lib.hid hbz
          have hI0 : BI V bb bb (.slice none 0 0) [] := ⟨⟨_, .inl rfl, hbl⟩, rfl, .inl ⟨rfl, rfl⟩⟩
          have hDV := HD5.out.below hbb HD5.out.lt
          have hzb : z < bb := by rw [hbz]; exact HD5.out.lt
          have HI0 := Lib.hid hI0
          have HVS := Lib.hid hVs
          have HBV := Lib.hid (show Below bb w5 V by rw [hbz]; exact hbb)
          have x1 := hDV.c1
          clear hI0 hDV hbl hbb hbz hVs
          go_upto_region 7 with fail
          rw [← HV.out, ← HBZ.out]
          clear HV
          go_wp2_with fail
          go_loopw [48] (fun v wr => ∃ (k : Nat) (v' : Value), k ≤ nm ∧ v = .int .i64 (k : Nat) ∧ BI wr bb bb v' (accF ws ms k) ∧ Below bb w5 wr) (fun v _ => nm - (intOf v).toNat)
          case atStart => exact ⟨0, _, Nat.zero_le _, rfl, by rw [show accF ws ms 0 = [] by simp [accF, textF]]; exact HI0.out, HBV.out⟩
          case round =>
            obtain ⟨k, v', hk, rfl, hI, hB⟩ := hrel
            have hsb := hI.lt
            have HI := Lib.hid hI
            have HB := Lib.hid hB
            have hB' : Below w5.heap.size w5 wr := by rw [← HBZ.out]; exact hB
            have hDr := HDY5.out.below hB'
            have hPr : PT wr := HPY5.out.stays hB'
            have hDb := HD5.out.below hB' HD5.out.lt
            have hal := accF_len HSZ.out.big ms k (by rw [← HNM.out]; exact hk)
            have hm100 : nm ≤ 100 := by rw [HNM.out]; exact HSZ.out.m
            have HAL := Lib.hid (show (accF ws ms k).length ≤ 1887438800 by
              have : k * 18874388 ≤ 100 * 18874388 := Nat.mul_le_mul_right _ (by omega)
              omega)
            clear hB hB' hal hI
            by_cases hkn : k < nm
            · have d0 : decide ((k : Int) < (nm : Int)) = true := decide_eq_true (by omega)
              have d1 : decide (k < nm) = true := decide_eq_true hkn
              have hkm : k < ms.length := by rw [← HNM.out]; exact hkn
              obtain ⟨bm, off, rfl, hmg⟩ := hDr.hM.cellsAt hkm
              have hget : ms[k]? = some ms[k] := List.getElem?_eq_getElem hkm
              have hids := made_ids ms _ (fun j hj => decide_eq_true hj) HTM.out.symm ms[k] (List.getElem_mem hkm)
              obtain ⟨x, hx⟩ : ∃ x, x = ms[k] := ⟨_, rfl⟩
              rw [← hx] at hmg hget hids
              have HG := Lib.hid hget
              clear hx hget hkm
              obtain ⟨xl, xr, xi⟩ := x
              obtain ⟨⟨vi, hvi, vi1, vi2⟩, ⟨vl, hvl, vl2⟩, vr, hvr, vr2⟩ := hids
              simp only at hvi hvl hvr
              subst hvi hvl hvr
              obtain ⟨m0, m1, m2⟩ := hmg
              simp only at m0 m1 m2
              have ik : 0 ≤ (k : Int) ∧ (k : Int) < (nm : Int) := by omega
              have x0 := hDb.c0
              have HX0 := Lib.hid x0
              have HDr := Lib.hid hDr
              have HPr := Lib.hid hPr
              clear x0 hDr hPr hDb d1 hk
              have hbx := box_below wr (.cells #[.int .i64 (vl : Nat), .int .i64 (vr : Nat), .int .i64 (vi : Nat)] 38)
              have hxl := heap_alloc_new wr (.cells #[.int .i64 (vl : Nat), .int .i64 (vr : Nat), .int .i64 (vi : Nat)] 38)
              go_wp2_with fail
              obtain ⟨X, hX⟩ : ∃ X, X = wr.alloc (.cells #[.int .i64 (vl : Nat), .int .i64 (vr : Nat), .int .i64 (vi : Nat)] 38) := ⟨_, rfl⟩
              obtain ⟨q, hq⟩ : ∃ q, q = wr.heap.size := ⟨_, rfl⟩
              rw [← hX] at hbx hxl ⊢
              rw [← hq] at hxl ⊢
              have HQ := Lib.hid hq
              clear hX hq m0 m1 m2 d0
              have k0 := cell_regrown ((cell_of_block hxl 0).trans rfl)
              have k1 := cell_regrown ((cell_of_block hxl 1).trans rfl)
              have k2 := cell_regrown ((cell_of_block hxl 2).trans rfl)
              have x0 := (hbx.cell (World.block_lt_of_cell? wr _ HX0.out)).trans HX0.out
              rw [HNW.out] at x0
              have hWX := HDr.out.hW.below hbx
              have hPX := HPr.out.stays hbx
              have hln : ms.length = nm := HNM.out.symm
              have hlw : ws.length = nm := by rw [← HNW.out]; exact HL.out
              have HL1 := fun d os => wordOf_any z vl aw cw ws (grow (redrawn X d) os) (by omega) (by omega) (cell_regrown x0 d os) (hWX.below (below_regrown X d os))
              have HL2 := fun d os => wordOf_any z vr aw cw ws (grow (redrawn X d) os) (by omega) (by omega) (cell_regrown x0 d os) (hWX.below (below_regrown X d os))
              have HQ1 := fun d os => quote_any (wordF ws vl) (grow (redrawn X d) os) (by have := wordF_le ws HSZ.out.big vl; omega)
              have HQ2 := fun d os => quote_any (wordF ws vr) (grow (redrawn X d) os) (by have := wordF_le ws HSZ.out.big vr; omega)
              have HIt := fun d os => itoa_any vi vi1 (by omega) (grow (redrawn X d) os) (hPX.stays (below_regrown X d os))
              have HXL := Lib.hid hxl
              clear hxl x0 hWX hPX hln hlw
              refine wp_region_quiet_tail (C := fun w' => ∃ p : Regrown, w' = grow (redrawn X p.d) p.os) 13 (by kernel_rfl) (by kernel_rfl) ⟨⟨_, #[]⟩, by rw [grow_empty]; rfl⟩ ?_
              simp only [List.take_succ_cons, List.take_zero, List.drop_succ_cons, List.drop_zero]
              repeat (go_big_quiet_step (fail))
              go_big_quiet_step ((go_at_call 12; exact Calls.regrown_of (HL1 _ _)))
              repeat (go_big_quiet_step (fail))
              go_big_quiet_step ((go_at_call 11; exact Calls.regrown_of (HQ1 _ _)))
              repeat (go_big_quiet_step (fail))
              go_big_quiet_step ((go_at_call 12; exact Calls.regrown_of (HL2 _ _)))
              repeat (go_big_quiet_step (fail))
              go_big_quiet_step ((go_at_call 11; exact Calls.regrown_of (HQ2 _ _)))
              repeat (go_big_quiet_step (fail))
              go_big_quiet_step ((go_at_call 17; exact Calls.regrown_of (HIt _ _)))
              refine wpQuiet_nil ?_
              intro W5 hw'
              have hb5 : Below X.heap.size X W5 := by
                obtain ⟨⟨dq, osq⟩, rfl⟩ := hw'
                exact below_regrown _ _ _
              clear hw' k0 k1 k2 HL1 HL2 HQ1 HQ2 HIt HXL
              have hb6 := hbx.trans (hb5.mono hbx.size)
              have hI5 := HI.out.below hb6
              have hsl := box_below W5 (.cells #[.string (textOf sMerge), .string (textOf (quoteF (tl (wordF ws vl)))), .string (textOf sPlus), .string (textOf (quoteF (tl (wordF ws vr)))), .string (textOf sEq), .string (textOf (dec3 vi))] 9)
              have hnw := heap_alloc_new W5 (.cells #[.string (textOf sMerge), .string (textOf (quoteF (tl (wordF ws vl)))), .string (textOf sPlus), .string (textOf (quoteF (tl (wordF ws vr)))), .string (textOf sEq), .string (textOf (dec3 vi))] 9)
              have hI6 := hI5.below hsl
              have hb7 := hb6.trans (hsl.mono hb6.size)
              have HB7 := Lib.hid hb7
              have hgetX := HG.out
              have hml := jn_len _ _ (merge_len HSZ.out.big ⟨(vl : Int), (vr : Int), (vi : Int)⟩)
              have hwl := writeLine_any bb bb v' (accF ws ms k) W5.heap.size 6 _ (mergeT ws ⟨(vl : Int), (vr : Int), (vi : Int)⟩) _ hI6 (by have := hb7.size; omega) hnw (by
                intro i hi
                have hi6 : i < 6 := hi
                have : i = 0 ∨ i = 1 ∨ i = 2 ∨ i = 3 ∨ i = 4 ∨ i = 5 := by omega
                rcases this with rfl | rfl | rfl | rfl | rfl | rfl <;> rfl) (by
                intro k' hk'
                have h6 : k' ≤ 6 := hk'
                have h7 := hml k'
                have h8 := HAL.out
                have : k' * (3145730 + 1) ≤ 6 * (3145730 + 1) := Nat.mul_le_mul_right _ h6
                omega) (by show 6 ≤ _; omega)
              rw [show (mergeT ws ⟨(vl : Int), (vr : Int), (vi : Int)⟩).length = 6 from rfl] at hwl
              have HWL := Lib.hid hwl
              have HI6 := Lib.hid hI6
              clear hb5 hb6 hsl hnw hI5 hI6 hb7 hml hbx hgetX hwl
              go_wp2_with fail
              refine HWL.out.mono ?_
              rintro e w7 ⟨rfl, v7, hI7, hB7, hM7⟩
              have hbe := HI6.out.wrote_below hB7
              have HBE := Lib.hid (HB.out.trans ((HB7.out.mono (by omega)).trans hbe))
              have HI7 := Lib.hid (show BI w7 bb bb v7 (accF ws ms (k + 1)) by rw [accF_succ HG.out]; exact hI7)
              clear hI7 hB7 hM7 hbe HI6 HWL
              go_wp2_with fail
              go_roundw
              case rel => exact ⟨k + 1, v7, by omega, by go_num, HI7.out, HBE.out⟩
              case measure => simp [intOf]; omega
            · have d0 : decide ((k : Int) < (nm : Int)) = false := decide_eq_false (by omega)
              have d1 : decide (k < nm) = false := decide_eq_false hkn
              have hkm : k = ms.length := by rw [← HNM.out]; omega
              have HKM := Lib.hid hkm
              have hDb5 := hDb
              have x2 := hDb.c2
              have HDb := Lib.hid hDb
              have HDr := Lib.hid hDr
              have hCA := class_any nmL a ca A wr hDr.hA (by have := HSZ.out.a; omega) HT1.out.symm
              clear hkm hDb hDb5 hDr hPr hk hkn
              go_upto_region 12 with fail
              clear d0 d1
              go_wp2_with fail
              refine hCA.mono ?_
              rintro e w7 ⟨v7, rfl, hO7, hb7⟩
              obtain ⟨t7, c7, cur7, rfl, hT7, hc7⟩ := toks hO7 (by unfold clsT; simp)
              have hl7 := cls_len (nm := nmL) (by decide) HT1.out.symm
              have hI7 := HI.out.below hb7
              have HB7 := Lib.hid (HB.out.trans (hb7.mono (by omega)))
              have hW7 := writeLine_any bb bb v' _ t7 c7 cur7 (clsT nmL A) w7 hI7 (by have := hb7.size; omega) hT7 hc7 (by
                intro k' hk'
                have h1 := jn_len _ _ hl7.1 k'
                have h2 := HAL.out
                have h3 := hl7.2
                have h4 := HSZ.out.a
                omega) (by have h3 := hl7.2; have h4 := HSZ.out.a; omega)
              have HW7 := Lib.hid hW7
              have HI7 := Lib.hid hI7
              have hs7 := hb7.size
              clear hCA hO7 hb7 hT7 hc7 hl7 hI7 hW7 x2
              go_wp2_with fail
              refine HW7.out.mono ?_
              rintro e w8 ⟨rfl, v8, hI8, hB8, hM8⟩
              have hb8 := HI7.out.wrote_below hB8
              have HB8 := Lib.hid (HB7.out.trans hb8)
              have hl8 := cls_len (nm := nmL) (by decide) HT1.out.symm
              have ha8 : (accF ws ms k ++ (jn (clsT nmL A) (clsT nmL A).length ++ [10])).length ≤ 2000000000 := by
                have h1 := jn_len _ _ hl8.1 (clsT nmL A).length
                have h2 := HAL.out
                have h3 := hl8.2
                have h4 := HSZ.out.a
                rw [List.length_append, List.length_append]
                show _ + (_ + 1) ≤ _
                omega
              have HA8 := Lib.hid ha8
              have HI8 := Lib.hid hI8
              have hs8 := hb8.size
              have h8w : Below w5.heap.size w5 w8 := by rw [← HBZ.out]; exact HB8.out
              have hDr8 := HDY5.out.below h8w
              have hDb8 := HD5.out.below h8w HD5.out.lt
              have x3 := hDb8.c3
              have hCB := class_any nmN b cb B w8 hDr8.hB (by have := HSZ.out.b; omega) HT2.out.symm
              clear hI8 hB8 hM8 hb8 hl8 ha8 HW7 HI7 HB7 h8w hDr8 hDb8
              go_wp2_with fail
              refine hCB.mono ?_
              rintro e w9 ⟨v9, rfl, hO9, hb9⟩
              obtain ⟨t9, c9, cur9, rfl, hT9, hc9⟩ := toks hO9 (by unfold clsT; simp)
              have hl9 := cls_len (nm := nmN) (by decide) HT2.out.symm
              have hI9 := HI8.out.below hb9
              have HB9 := Lib.hid (HB8.out.trans (hb9.mono (by omega)))
              have hW9 := writeLine_any bb bb v8 _ t9 c9 cur9 (clsT nmN B) w9 hI9 (by have := hb9.size; omega) hT9 hc9 (by
                intro k' hk'
                have h1 := jn_len _ _ hl9.1 k'
                have h2 := HA8.out
                have h3 := hl9.2
                have h4 := HSZ.out.b
                omega) (by have h3 := hl9.2; have h4 := HSZ.out.b; omega)
              have HW9 := Lib.hid hW9
              have HI9 := Lib.hid hI9
              have hs9 := hb9.size
              clear hCB hO9 hb9 hT9 hc9 hl9 hI9 hW9 x3
              go_wp2_with fail
              refine HW9.out.mono ?_
              rintro e w10 ⟨rfl, v10, hI10, hB10, hM10⟩
              have hb10 := HI9.out.wrote_below hB10
              have HB10 := Lib.hid (HB9.out.trans hb10)
              have hl10 := cls_len (nm := nmN) (by decide) HT2.out.symm
              have ha10 : (accF ws ms k ++ (jn (clsT nmL A) (clsT nmL A).length ++ [10]) ++ (jn (clsT nmN B) (clsT nmN B).length ++ [10])).length ≤ 2100000000 := by
                have h1 := jn_len _ _ hl10.1 (clsT nmN B).length
                have h2 := HA8.out
                have h3 := hl10.2
                have h4 := HSZ.out.b
                have e3 : (jn (clsT nmN B) (clsT nmN B).length ++ [(10 : UInt8)]).length = (jn (clsT nmN B) (clsT nmN B).length).length + 1 := by rw [List.length_append]; rfl
                rw [List.length_append]
                omega
              have HA10 := Lib.hid ha10
              have HI10 := Lib.hid hI10
              have hs10 := hb10.size
              have h10w : Below w5.heap.size w5 w10 := by rw [← HBZ.out]; exact HB10.out
              have hDr10 := HDY5.out.below h10w
              have hDb10 := HD5.out.below h10w HD5.out.lt
              have x4 := hDb10.c4
              have hCC := class_any nmS c cc C w10 hDr10.hC (by have := HSZ.out.c; omega) HT3.out.symm
              clear hI10 hB10 hM10 hb10 hl10 ha10 HW9 HI9 HB9 h10w hDr10 hDb10
              go_wp2_with fail
              refine hCC.mono ?_
              rintro e w11 ⟨v11, rfl, hO11, hb11⟩
              obtain ⟨t11, c11, cur11, rfl, hT11, hc11⟩ := toks hO11 (by unfold clsT; simp)
              have hl11 := cls_len (nm := nmS) (by decide) HT3.out.symm
              have hI11 := HI10.out.below hb11
              have HB11 := Lib.hid (HB10.out.trans (hb11.mono (by omega)))
              have hW11 := writeLine_any bb bb v10 _ t11 c11 cur11 (clsT nmS C) w11 hI11 (by have := hb11.size; omega) hT11 hc11 (by
                intro k' hk'
                have h1 := jn_len _ _ hl11.1 k'
                have h2 := HA10.out
                have h3 := hl11.2
                have h4 := HSZ.out.c
                omega) (by have h3 := hl11.2; have h4 := HSZ.out.c; omega)
              have HW11 := Lib.hid hW11
              have HI11 := Lib.hid hI11
              have hs11 := hb11.size
              clear hCC hO11 hb11 hT11 hc11 hl11 hI11 hW11 x4
              go_wp2_with fail
              refine HW11.out.mono ?_
              rintro e w12 ⟨rfl, v12, hI12, hB12, hM12⟩
              have hb12 := HI11.out.wrote_below hB12
              have HB12 := Lib.hid (HB11.out.trans hb12)
              obtain ⟨TX, hTX⟩ : ∃ TX, TX = accF ws ms k ++ (jn (clsT nmL A) (clsT nmL A).length ++ [10]) ++ (jn (clsT nmN B) (clsT nmN B).length ++ [10]) ++ (jn (clsT nmS C) (clsT nmS C).length ++ [10]) := ⟨_, rfl⟩
              rw [← hTX] at hI12
              have HTX := Lib.hid hTX
              have hS := string_any bb bb v12 _ w12 hI12 (by rw [hTX]; simp) (by have := hb12.size; omega)
              clear hTX
              clear hI12 hB12 hM12 hb12 HW11 HI11
              go_wp2_with fail
              refine hS.mono ?_
              rintro e w13 ⟨rfl, hb13⟩
              clear hS
              go_wp2_with fail
              go_ret2
              have hbw : w.heap.size ≤ bb := by have := HBZ.out; have := HB5.out.size; omega
              refine ⟨?_, HB5.out.trans ((HB12.out.mono hbw).trans (hb13.mono hbw))⟩
              rw [HTXT.out, text_all, ← HKM.out]
              show Ending.returned (.tuple #[.string (textOf TX), .int .i64 0]) = _
              rw [HTX.out]
              rfl
  · have q0 : (((nw : Nat) : Int) != ((nm : Nat) : Int)) = true := by simp; omega
    have HL := Lib.hid hl
    clear hl
    clear hU
    go_wp2_with fail
    go_ret2
    refine ⟨?_, HB0.out⟩
    rw [HR.out]
    unfold printF wordsOk
    rw [decide_eq_false (by rw [← HNW.out, ← HNM.out]; exact HL.out)]
    simp
    rfl
end Go.Proofs.YtonbfcpbgkpbaabDoor
end
section
/- The law's reads, at a recipe that is read; known. -/
namespace Go.Proofs.YtonbfcpbgkpbaabDoor
open Go.RowKit Go.Sort Go.Joins
set_option linter.unusedVariables false
set_option linter.unusedSimpArgs false
set_option maxRecDepth 100000
theorem OwnG.wsp {w : World} {base : Nat} {a : Option Addr} {c : Nat} {l : List (List UInt8)} (h : OwnG 9 1 encS1 w base (.slice a l.length c) l) : WSP w a (l.map textOf) := by
  cases l with
  | nil => exact .inl rfl
  | cons s l =>
    obtain ⟨b, ha, -, -, -⟩ := OwnG.row (k := 1) (enc := encS1) (fun _ => rfl) h (i := 0) rfl
    refine .inr ⟨b, 0, ha, fun i x hx => ?_⟩
    rw [List.getElem?_map] at hx
    cases hy : (s :: l)[i]? with
    | none => rw [hy] at hx; cases hx
    | some y =>
      rw [hy] at hx
      obtain rfl : textOf y = x := Option.some.inj hx
      obtain ⟨b', ha', -, -, hc⟩ := OwnG.row (k := 1) (enc := encS1) (fun _ => rfl) h hy
      rw [ha] at ha'
      cases ha'
      have := hc 0 (by omega)
      rw [Nat.mul_one, Nat.add_zero] at this
      rw [Nat.zero_add]
      exact this
theorem OwnG.msp {w : World} {base : Nat} {a : Option Addr} {c : Nat} {l : List Mg} (h : OwnG 38 3 encG w base (.slice a l.length c) l) : MSP w a l := by
  cases l with
  | nil => exact .inl rfl
  | cons s l =>
    obtain ⟨b, ha, -, -, -⟩ := OwnG.row (k := 3) (enc := encG) (fun _ => rfl) h (i := 0) rfl
    refine .inr ⟨b, 0, ha, fun i x hx => ?_⟩
    obtain ⟨b', ha', -, -, hc⟩ := OwnG.row (k := 3) (enc := encG) (fun _ => rfl) h hx
    rw [ha] at ha'
    cases ha'
    rw [Nat.zero_add]
    exact ⟨(hc 0 (by omega)).trans rfl, (hc 1 (by omega)).trans rfl, (hc 2 (by omega)).trans rfl⟩
theorem OwnG.sps {w : World} {base : Nat} {a : Option Addr} {c : Nat} {l : List Sp} (h : OwnG 41 2 encS w base (.slice a l.length c) l) : SPS w a l := by
  cases l with
  | nil => exact .inl rfl
  | cons s l =>
    obtain ⟨b, ha, -, -, -⟩ := OwnG.row (k := 2) (enc := encS) (fun _ => rfl) h (i := 0) rfl
    refine .inr ⟨b, 0, ha, fun i x hx => ?_⟩
    obtain ⟨b', ha', -, -, hc⟩ := OwnG.row (k := 2) (enc := encS) (fun _ => rfl) h hx
    rw [ha] at ha'
    cases ha'
    rw [Nat.zero_add]
    exact ⟨(hc 0 (by omega)).trans rfl, (hc 1 (by omega)).trans rfl⟩
set_option maxHeartbeats 4000000 in
theorem reads_ok (src : ByteArray) (d : PD) (b0 b1 b2 b3 b4 : Option Addr) (d0 d1 d2 d3 d4 : Nat) (w : World) (hs : src.size ≤ 4194304) (hp : parseA (tl src) = .ok d) (hn : d.W.length ≤ 4611686018427387904 ∧ d.M.length ≤ 4611686018427387904 ∧ d.A.length ≤ 4611686018427387904 ∧ d.B.length ≤ 4611686018427387904 ∧ d.C.length ≤ 4611686018427387904)
    (k0 : WSP w b0 (d.W.map textOf)) (k1 : MSP w b1 d.M) (k2 : SPS w b2 d.A) (k3 : SPS w b3 d.B) (k4 : SPS w b4 d.C) :
    Calls Tryd.prog 10 #[.string src, .agg #[.slice b0 d.W.length d0, .slice b1 d.M.length d1, .slice b2 d.A.length d2, .slice b3 d.B.length d3, .slice b4 d.C.length d4], .agg #[.int .i64 0, .int .i64 0, .int .i64 0], .int .i64 0] w fun e w' => e = .returned (.bool true) ∧ Below w.heap.size w w' := by
  have HP := fun wx => parse_any src (fun _ => (0, 0)) wx (by omega) (fun y hy => by rw [hp] at hy; cases hy)
  rw [hp] at HP
  obtain ⟨nW, hnW⟩ : ∃ n, n = d.W.length := ⟨_, rfl⟩
  obtain ⟨nM, hnM⟩ : ∃ n, n = d.M.length := ⟨_, rfl⟩
  obtain ⟨nA, hnA⟩ : ∃ n, n = d.A.length := ⟨_, rfl⟩
  obtain ⟨nB, hnB⟩ : ∃ n, n = d.B.length := ⟨_, rfl⟩
  obtain ⟨nC, hnC⟩ : ∃ n, n = d.C.length := ⟨_, rfl⟩
  have HN := Lib.hid hn
  have K0 := Lib.hid k0
  have K1 := Lib.hid k1
  have K2 := Lib.hid k2
  have K3 := Lib.hid k3
  have K4 := Lib.hid k4
  have HNW := Lib.hid hnW
  have HNM := Lib.hid hnM
  have HNA := Lib.hid hnA
  have HNB := Lib.hid hnB
  have HNC := Lib.hid hnC
  rw [← hnW, ← hnM, ← hnA, ← hnB, ← hnC]
  have bx1 := box_below w (.cells #[.slice b0 nW d0, .slice b1 nM d1, .slice b2 nA d2, .slice b3 nB d3, .slice b4 nC d4] 26)
  have hb1 := heap_alloc_new w (.cells #[.slice b0 nW d0, .slice b1 nM d1, .slice b2 nA d2, .slice b3 nB d3, .slice b4 nC d4] 26)
  obtain ⟨w1, hw1⟩ : ∃ w1, w1 = w.alloc (.cells #[.slice b0 nW d0, .slice b1 nM d1, .slice b2 nA d2, .slice b3 nB d3, .slice b4 nC d4] 26) := ⟨_, rfl⟩
  have hs1 : w1.heap.size = w.heap.size + 1 := by rw [hw1]; simp
  rw [← hw1] at bx1 hb1
  have bx2 := box_below w1 (.cells #[.int .i64 0, .int .i64 0, .int .i64 0] 44)
  have hb2 := heap_alloc_new w1 (.cells #[.int .i64 0, .int .i64 0, .int .i64 0] 44)
  obtain ⟨w2, hw2⟩ : ∃ w2, w2 = w1.alloc (.cells #[.int .i64 0, .int .i64 0, .int .i64 0] 44) := ⟨_, rfl⟩
  have hs2 : w2.heap.size = w.heap.size + 2 := by rw [hw2]; simp; omega
  rw [← hw2] at bx2 hb2
  rw [hs1] at hb2
  have hb1 := (bx2.block w.heap.size (by omega)).trans hb1
  have HB2 := Lib.hid (bx1.trans (bx2.mono bx1.size))
  have HW1 := Lib.hid hw1
  have HW2 := Lib.hid hw2
  have HD1 := Lib.hid hb1
  have HD2 := Lib.hid hb2
  have HS2 := Lib.hid hs2
  clear hp hn k0 k1 k2 k3 k4 hnW hnM hnA hnB hnC bx1 bx2 hw1 hw2 hs1 hs2 hb1 hb2
  go_enter Tryd.func10, Tryd.ntmps10
  go_wp2_with fail
  rw [← HW1.out, ← HW2.out]
  refine (HP _).mono ?_
  rintro e w3 ⟨hb3, vW, vM, vA, vB, vC, rfl, hO⟩
  obtain ⟨xW, cW, rfl⟩ := hO.oW.slice
  obtain ⟨xM, cM, rfl⟩ := hO.oM.slice
  obtain ⟨xA, cA, rfl⟩ := hO.oA.slice
  obtain ⟨xB, cB, rfl⟩ := hO.oB.slice
  obtain ⟨xC, cC, rfl⟩ := hO.oC.slice
  have j0 := hO.oW.wsp
  have j1 := hO.oM.msp
  have j2 := hO.oA.sps
  have j3 := hO.oB.sps
  have j4 := hO.oC.sps
  have bb2 := HB2.out
  have hD1 := (hb3.block w.heap.size (by have := HS2.out; omega)).trans HD1.out
  have hD2 := (hb3.block (w.heap.size + 1) (by have := HS2.out; omega)).trans HD2.out
  have hb3' := bb2.trans (hb3.mono bb2.size)
  have bx4 := box_below w3 (.cells #[.slice xW d.W.length cW, .slice xM d.M.length cM, .slice xA d.A.length cA, .slice xB d.B.length cB, .slice xC d.C.length cC] 26)
  have bx5 := bx4.trans ((box_below (w3.alloc (.cells #[.slice xW d.W.length cW, .slice xM d.M.length cM, .slice xA d.A.length cA, .slice xB d.B.length cB, .slice xC d.C.length cC] 26)) (.cells #[.int .i64 0, .int .i64 0, .int .i64 0] 32)).mono bx4.size)
  have i0 := (K0.out.below hb3').below bx5
  have i1 := (K1.out.below hb3').below bx5
  have i2 := (K2.out.below hb3').below bx5
  have i3 := (K3.out.below hb3').below bx5
  have i4 := (K4.out.below hb3').below bx5
  have j0 := j0.below bx5
  have j1 := j1.below bx5
  have j2 := j2.below bx5
  have j3 := j3.below bx5
  have j4 := j4.below bx5
  have hE1 := (bx5.block w.heap.size (by have := hb3'.size; have := (Array.getElem?_eq_some_iff.1 hD1).1; omega)).trans hD1
  have hE2 := (bx5.block (w.heap.size + 1) (by have := (Array.getElem?_eq_some_iff.1 hD2).1; omega)).trans hD2
  have hlen : (d.W.map textOf).length = d.W.length := by simp
  have HSM := keepSame_any xW xM xA xB xC b0 b1 b2 b3 b4 cW cM cA cB cC d0 d1 d2 d3 d4 (d.W.map textOf) d.M d.A d.B d.C _ (by rw [hlen]; exact HN.out) j0 j1 j2 j3 j4 i0 i1 i2 i3 i4
  rw [hlen, ← HNW.out, ← HNM.out, ← HNA.out, ← HNB.out, ← HNC.out] at HSM
  rw [← HNW.out, ← HNM.out, ← HNA.out, ← HNB.out, ← HNC.out] at bx5 hE1 hE2
  have HBX := Lib.hid (hb3'.trans (bx5.mono hb3'.size))
  have y0 : ((w3.alloc (.cells #[.slice xW nW cW, .slice xM nM cM, .slice xA nA cA, .slice xB nB cB, .slice xC nC cC] 26)).alloc (.cells #[.int .i64 0, .int .i64 0, .int .i64 0] 32)).cell? ⟨w.heap.size, 0, none⟩ = some (.slice b0 nW d0) := (cell_of_block hE1 0).trans rfl
  have y1 : ((w3.alloc (.cells #[.slice xW nW cW, .slice xM nM cM, .slice xA nA cA, .slice xB nB cB, .slice xC nC cC] 26)).alloc (.cells #[.int .i64 0, .int .i64 0, .int .i64 0] 32)).cell? ⟨w.heap.size, 1, none⟩ = some (.slice b1 nM d1) := (cell_of_block hE1 1).trans rfl
  have y2 : ((w3.alloc (.cells #[.slice xW nW cW, .slice xM nM cM, .slice xA nA cA, .slice xB nB cB, .slice xC nC cC] 26)).alloc (.cells #[.int .i64 0, .int .i64 0, .int .i64 0] 32)).cell? ⟨w.heap.size, 2, none⟩ = some (.slice b2 nA d2) := (cell_of_block hE1 2).trans rfl
  have y3 : ((w3.alloc (.cells #[.slice xW nW cW, .slice xM nM cM, .slice xA nA cA, .slice xB nB cB, .slice xC nC cC] 26)).alloc (.cells #[.int .i64 0, .int .i64 0, .int .i64 0] 32)).cell? ⟨w.heap.size, 3, none⟩ = some (.slice b3 nB d3) := (cell_of_block hE1 3).trans rfl
  have y4 : ((w3.alloc (.cells #[.slice xW nW cW, .slice xM nM cM, .slice xA nA cA, .slice xB nB cB, .slice xC nC cC] 26)).alloc (.cells #[.int .i64 0, .int .i64 0, .int .i64 0] 32)).cell? ⟨w.heap.size, 4, none⟩ = some (.slice b4 nC d4) := (cell_of_block hE1 4).trans rfl
  have z0 : ((w3.alloc (.cells #[.slice xW nW cW, .slice xM nM cM, .slice xA nA cA, .slice xB nB cB, .slice xC nC cC] 26)).alloc (.cells #[.int .i64 0, .int .i64 0, .int .i64 0] 32)).cell? ⟨w.heap.size + 1, 0, none⟩ = some (.int .i64 0) := (cell_of_block hE2 0).trans rfl
  have z1 : ((w3.alloc (.cells #[.slice xW nW cW, .slice xM nM cM, .slice xA nA cA, .slice xB nB cB, .slice xC nC cC] 26)).alloc (.cells #[.int .i64 0, .int .i64 0, .int .i64 0] 32)).cell? ⟨w.heap.size + 1, 1, none⟩ = some (.int .i64 0) := (cell_of_block hE2 1).trans rfl
  have z2 : ((w3.alloc (.cells #[.slice xW nW cW, .slice xM nM cM, .slice xA nA cA, .slice xB nB cB, .slice xC nC cC] 26)).alloc (.cells #[.int .i64 0, .int .i64 0, .int .i64 0] 32)).cell? ⟨w.heap.size + 1, 2, none⟩ = some (.int .i64 0) := (cell_of_block hE2 2).trans rfl
  rw [← HNW.out, ← HNM.out, ← HNA.out, ← HNB.out, ← HNC.out]
  clear j0 j1 j2 j3 j4 i0 i1 i2 i3 i4 hE1 hE2 hD1 hD2 bx4 bx5 hO hb3 hb3' bb2 hlen HP
  go_wp2_with fail
  refine HSM.mono ?_
  rintro e w6 ⟨rfl, hb6⟩
  go_wp2_with fail
  go_ret
  exact ⟨rfl, HBX.out.trans (hb6.mono HBX.out.size)⟩
end Go.Proofs.YtonbfcpbgkpbaabDoor
end
section
/- The law's known: its contract. -/
namespace Go.Proofs.YtonbfcpbgkpbaabDoor
open Go.RowKit Go.Sort Go.Joins
set_option linter.unusedVariables false
set_option linter.unusedSimpArgs false
set_option maxRecDepth 100000
def kSrc : ByteArray := ⟨#[109, 101, 114, 103, 101, 32, 34, 97, 34, 43, 34, 98, 34, 61, 50, 53, 54, 32, 115, 112, 97, 99, 101, 115, 123, 85, 43, 48, 48, 50, 48, 125]⟩
theorem parse_known : parseA (tl kSrc) = .ok ⟨[[97, 98]], [⟨97, 98, 256⟩], [], [], [⟨32, 32⟩]⟩ := by kernel_rfl
theorem quote_known : textOf (quoteF (tl ⟨#[97, 34, 10]⟩)) = ⟨#[34, 97, 92, 34, 92, 48, 97, 34]⟩ := by kernel_rfl
set_option maxHeartbeats 2000000 in
theorem known_any (w : World) : Calls Tryd.prog 4 #[] w fun e w' => e = .returned (.bool true) ∧ Below w.heap.size w w' := by
  have b1 := box_below w (.cells #[.string ⟨#[97, 98]⟩] 9)
  have k1 : WSP (w.alloc (.cells #[.string ⟨#[97, 98]⟩] 9)) (some ⟨w.heap.size, 0, none⟩) [⟨#[97, 98]⟩] := WSP.new w [⟨#[97, 98]⟩] 9
  obtain ⟨w1, hw1⟩ : ∃ w1, w1 = w.alloc (.cells #[.string ⟨#[97, 98]⟩] 9) := ⟨_, rfl⟩
  rw [← hw1] at b1 k1
  have hs1 : w1.heap.size = w.heap.size + 1 := by rw [hw1]; simp
  have b2 := box_below w1 (.cells #[.int .i64 97, .int .i64 98, .int .i64 256] 38)
  have k2 : MSP (w1.alloc (.cells #[.int .i64 97, .int .i64 98, .int .i64 256] 38)) (some ⟨w1.heap.size, 0, none⟩) [⟨97, 98, 256⟩] := MSP.new w1 [⟨97, 98, 256⟩] 38
  obtain ⟨w2, hw2⟩ : ∃ w2, w2 = w1.alloc (.cells #[.int .i64 97, .int .i64 98, .int .i64 256] 38) := ⟨_, rfl⟩
  rw [← hw2] at b2 k2
  have hs2 : w2.heap.size = w.heap.size + 2 := by rw [hw2]; simp; omega
  have b3 := box_below w2 (.cells #[.int .i32 32, .int .i32 32] 41)
  have k3 : SPS (w2.alloc (.cells #[.int .i32 32, .int .i32 32] 41)) (some ⟨w2.heap.size, 0, none⟩) [⟨32, 32⟩] := SPS.new w2 [⟨32, 32⟩] 41
  obtain ⟨w3, hw3⟩ : ∃ w3, w3 = w2.alloc (.cells #[.int .i32 32, .int .i32 32] 41) := ⟨_, rfl⟩
  rw [← hw3] at b3 k3
  have HR := reads_ok kSrc ⟨[[97, 98]], [⟨97, 98, 256⟩], [], [], [⟨32, 32⟩]⟩ (some ⟨w.heap.size, 0, none⟩) (some ⟨w1.heap.size, 0, none⟩) none none (some ⟨w2.heap.size, 0, none⟩) 1 1 0 0 1 w3 (by decide) parse_known ⟨by decide, by decide, by decide, by decide, by decide⟩ ((k1.below b2).below b3) (k2.below b3) (.inl rfl) (.inl rfl) k3
  have hb := (b1.trans (b2.mono b1.size)).trans (b3.mono (Nat.le_trans b1.size b2.size))
  have HQ := fun wx => quote_any ⟨#[97, 34, 10]⟩ wx (by decide)
  rw [quote_known] at HQ
  have HW1 := Lib.hid hw1
  have HW2 := Lib.hid hw2
  have HW3 := Lib.hid hw3
  have HB := Lib.hid hb
  have HS1 := Lib.hid hs1
  have HS2 := Lib.hid hs2
  unfold kSrc at HR
  rw [hs1, hs2] at HR
  clear hw1 hw2 hw3 hb hs1 hs2 b1 b2 b3 k1 k2 k3
  go_enter Tryd.func4, Tryd.ntmps4
  go_wp2_with fail
  rw [← HW1.out, ← HW2.out, ← HW3.out]
  refine HR.mono ?_
  rintro e w4 ⟨rfl, hb4⟩
  go_wp2_with fail
  refine (HQ _).mono ?_
  rintro e w5 ⟨rfl, hb5⟩
  go_wp2_with fail
  go_ret
  exact ⟨rfl, (HB.out.trans (hb4.mono HB.out.size)).trans (hb5.mono (Nat.le_trans HB.out.size hb4.size))⟩
end Go.Proofs.YtonbfcpbgkpbaabDoor
end
section
/- Recipes: two of them, one behind the other: the mathematics; spans put behind one another. -/
namespace Go.Proofs.YtonbfcpbgkpbaabDoor
open Go.RowKit Go.Sort Go.Joins
set_option linter.unusedVariables false
set_option linter.unusedSimpArgs false
set_option maxRecDepth 100000
theorem textOf_tl (s : ByteArray) : textOf (tl s) = s := by cases s; rfl
theorem tl_textOf (l : List UInt8) : tl (textOf l) = l := rfl
theorem texts_back (ws : List ByteArray) : (ws.map fun w => tl w).map textOf = ws := by
  rw [List.map_map]
  have : (textOf ∘ fun w => tl w) = id := by funext w; exact textOf_tl w
  rw [this, List.map_id]
theorem print_ok {ws : List ByteArray} {ms : List Mg} {A B C : List Sp} (h : (printF ws ms A B C).2 = 0) : wordsOk ws ms = true ∧ runesOk A B C = true ∧ (printF ws ms A B C).1 = textF [10] (linesF ws ms A B C) := by
  unfold printF at h ⊢
  by_cases h1 : wordsOk ws ms = true
  · rw [if_pos h1] at h ⊢
    by_cases h2 : runesOk A B C = true
    · rw [if_pos h2] at h ⊢
      exact ⟨h1, h2, rfl⟩
    · rw [if_neg h2] at h
      cases h
  · rw [if_neg h1] at h
    cases h
theorem print_codes (ws : List ByteArray) (ms : List Mg) (A B C : List Sp) : ((printF ws ms A B C).2 = 0) ∨ ((printF ws ms A B C).2 = 21 ∨ (printF ws ms A B C).2 = 14) := by
  unfold printF
  split
  · split
    · exact .inl rfl
    · exact .inr (.inr rfl)
  · exact .inr (.inl rfl)
theorem parse_pair {R S : List Rul} {x y : List UInt8} (hx : Chunk x (R.flatMap rulKs)) (hy : Chunk y (S.flatMap rulKs)) (hR : ∀ r ∈ R, RulFit r) (hS : ∀ r ∈ S, RulFit r) (hl : (x ++ y).length ≤ 4194304) :
    ∃ rd : RD, rxOf rd = (R ++ S).foldl rulX ⟨[], [], [], []⟩ ∧ parseA (x ++ y) = match meanF rd.M ⟨List.replicate rd.M.length [], [], []⟩ with
      | .error e => .error e
      | .ok d => .ok ⟨d.W, d.M, rd.A, rd.B, rd.C⟩ := by
  have ht : Txt (x ++ y) ((R ++ S).flatMap rulKs) := by
    have := hx _ _ (hy [] [] (.fin [] rfl))
    rw [List.append_nil, List.append_nil] at this
    rw [List.flatMap_append]
    exact this
  exact parse_rules hl (fun r hr => by
    rcases List.mem_append.1 hr with h | h
    · exact hR r h
    · exact hS r h) ht
theorem parse_turn {ws : List ByteArray} {ms : List Mg} {A B C A' B' C' : List Sp} (hm : ms.length ≤ 100) (h : (printF ws ms A B C).2 = 0) (h' : (printF [] [] A' B' C').2 = 0) (hl : (printF ws ms A B C).1.length ≤ 100000) (hl' : (printF [] [] A' B' C').1.length ≤ 100000) :
    parseA ((printF ws ms A B C).1 ++ (printF [] [] A' B' C').1) = .ok ⟨ws.map (fun w => tl w), ms, A ++ A', B ++ B', C ++ C'⟩ ∧ parseA ((printF [] [] A' B' C').1 ++ (printF ws ms A B C).1) = .ok ⟨ws.map (fun w => tl w), ms, A' ++ A, B' ++ B, C' ++ C⟩ := by
  obtain ⟨w1, r1, e1⟩ := print_ok h
  obtain ⟨w2, r2, e2⟩ := print_ok h'
  rw [e1] at hl ⊢
  rw [e2] at hl' ⊢
  have c1 := lines_chunk gap_nl (by omega) w1 r1
  have c2 := lines_chunk gap_nl (by show 0 ≤ 700; omega) w2 r2
  have f1 := rules_fit_of (ws := ws) (ms := ms) r1
  have f2 := rules_fit_of (ws := []) (ms := []) r2
  constructor
  · obtain ⟨rd, hrd, hp⟩ := parse_pair c1 c2 f1 f2 (by rw [List.length_append]; omega)
    have hf : (rulesOf ws ms A B C ++ rulesOf [] [] A' B' C').foldl rulX ⟨[], [], [], []⟩ = ⟨ms.map fun x => (tl (wordF ws x.l.toNat), tl (wordF ws x.r.toNat), dec3 x.i.toNat), A ++ A', B ++ B', C ++ C'⟩ := by
      unfold rulesOf
      simp only [List.foldl_append, fold_merges]
      simp [rulX]
    rw [hf] at hrd
    unfold rxOf at hrd
    rw [RX.mk.injEq] at hrd
    obtain ⟨g1, g2, g3, g4⟩ := hrd
    obtain ⟨d, hd, hd1, hd2⟩ := mean_text (by omega) w1 g1
    rw [hp, hd]
    simp only [hd1, hd2, g2, g3, g4]
  · obtain ⟨rd, hrd, hp⟩ := parse_pair c2 c1 f2 f1 (by rw [List.length_append]; omega)
    have hf : (rulesOf [] [] A' B' C' ++ rulesOf ws ms A B C).foldl rulX ⟨[], [], [], []⟩ = ⟨ms.map fun x => (tl (wordF ws x.l.toNat), tl (wordF ws x.r.toNat), dec3 x.i.toNat), A' ++ A, B' ++ B, C' ++ C⟩ := by
      unfold rulesOf
      simp only [List.foldl_append, fold_merges]
      simp [rulX]
    rw [hf] at hrd
    unfold rxOf at hrd
    rw [RX.mk.injEq] at hrd
    obtain ⟨g1, g2, g3, g4⟩ := hrd
    obtain ⟨d, hd, hd1, hd2⟩ := mean_text (by omega) w1 g1
    rw [hp, hd]
    simp only [hd1, hd2, g2, g3, g4]
theorem flat_S (l : List Sp) : l.flatMap encS = cellsS l := rfl
/-- Spans put behind what is owned. -/
theorem put_sps (W : World) (base : Nat) (v : Value) (l r : List Sp) (a : Option Addr) (cap : Nat) (hown : OwnG 41 2 encS W base v l) (h : SPS W a r) (hb : base ≤ W.heap.size) (hsz : l.length + r.length ≤ 4398046511104) :
    ∃ v' w', (Builtin.append_ #[24, 24] 24 #[v, .slice a r.length cap]).run Tryd.prog W = .ok v' w' ∧ OwnG 41 2 encS w' base v' (l ++ r) ∧ Below base W w' := by
  obtain ⟨i0, hi, hz0, hz1, hz2⟩ := info_parts infoSp
  cases a with
  | none =>
    have hr : r = [] := by
      rcases h with h | ⟨b, off, h, _⟩
      · exact h
      · cases h
    subst hr
    refine ⟨v, W, ?_, by rw [List.append_nil]; exact hown, Below.refl _ _⟩
    rcases hown.2 with ⟨rfl, _⟩ | ⟨g, cp, cur, rfl, _, _, hnc, _⟩
    · simp [Builtin.append_, run_underlying Tryd.underlying24, sizeOf, typeInfo, hi, Builtin.lenOf, Builtin.firstCells]
    · simp [Builtin.append_, run_underlying Tryd.underlying24, sizeOf, typeInfo, hi, Builtin.lenOf, Builtin.firstCells, hnc, storeCells]
  | some x =>
    have hlt : ∀ k, v.ownBlock = some k → base ≤ k := fun k hk => (World.ownsRow.lt hown k hk).1
    obtain ⟨v', w', h1, h2, h3, _⟩ := run_append_own (P := Tryd.prog) W base 24 24 41 i0 (.agg #[.int .i32 0, .int .i32 0]) 2 8 Tryd.underlying24 hi hz0 hz1 hz2 rfl (by decide) v l.length (l.flatMap encS) hown x r.length cap (r.flatMap encS) (flat_length (enc := encS) (k := 2) (fun _ => rfl) r) (fun j u hu => h.cells j u (by rw [← flat_S]; exact hu)) (fun u hu => by
      obtain ⟨y, _, hy⟩ := List.mem_flatMap.1 hu
      exact encS_one y u hy) (by unfold maxLen; omega) (by omega) hb
    refine ⟨v', w', h1, ?_, (Below.refl base W).grown h3 hb hlt⟩
    unfold OwnG
    rw [List.length_append, List.flatMap_append]
    exact h2
end Go.Proofs.YtonbfcpbgkpbaabDoor
end
