import Derived.Test.YtonbfcpbgkpbaaaGreatDoorJ14
import Derived.Test.YtonbfcpbgkpbaaaGreatDoorJ11
import Derived.Test.YtonbfcpbgkpbaaaGreatDoorJ12
import Derived.Test.YtonbfcpbgkpbaaaGreatDoorJ3
import Derived.Test.YtonbfcpbgkpbaaaGreatDoorJ10
section
/- recipe.Print for all data: its contract. -/
namespace Go.Proofs.YtonbfcpbgkpbaaaGreatDoor
open Go.RowKit Go.Sort Go.Joins
set_option linter.unusedVariables false
set_option linter.unusedSimpArgs false
set_option maxRecDepth 100000
/-- What Print's argument is, in a world. -/
structure PrD (w : World) (aw am a b c : Option Addr) (ws : List ByteArray) (ms : List Mg) (A B C : List Sp) : Prop where
  hW : WSP w aw ws
  hM : MSP w am ms
  hA : SPS w a A
  hB : SPS w b B
  hC : SPS w c C
theorem PrD.below {w w' : World} {aw am a b c : Option Addr} {ws : List ByteArray} {ms : List Mg} {A B C : List Sp} (h : PrD w aw am a b c ws ms A B C) (hb : Below w.heap.size w w') : PrD w' aw am a b c ws ms A B C :=
  ⟨h.hW.below hb, h.hM.below hb, h.hA.below hb, h.hB.below hb, h.hC.below hb⟩
/-- Sizes that are met. -/
structure PrZ (ws : List ByteArray) (ms : List Mg) (A B C : List Sp) : Prop where
  w : ws.length ≤ 1048576
  m : ms.length ≤ 100
  big : ∀ x ∈ ws, x.size ≤ 1048576
  a : A.length ≤ 1048576
  b : B.length ≤ 1048576
  c : C.length ≤ 1048576
set_option maxHeartbeats 8000000 in
theorem print_any (aw am a b c : Option Addr) (cw cm ca cb cc : Nat) (ws : List ByteArray) (ms : List Mg) (A B C : List Sp) (w : World) (hD : PrD w aw am a b c ws ms A B C) (hZ : PrZ ws ms A B C) (hP : PT w) :
    Calls Tryz.prog 6 #[.agg #[.slice aw ws.length cw, .slice am ms.length cm, .slice a A.length ca, .slice b B.length cb, .slice c C.length cc]] w fun e w' => e = .returned (.tuple #[.string (textOf (printF ws ms A B C).1), .int .i64 ((printF ws ms A B C).2 : Nat)]) ∧ Below w.heap.size w w' := by
  obtain ⟨R, hR⟩ : ∃ R, R = printF ws ms A B C := ⟨_, rfl⟩
  have HR := Lib.hid hR
  rw [← hR]
  clear hR
  have hX := DBox.new w (.slice aw ws.length cw) (.slice am ms.length cm) (.slice a A.length ca) (.slice b B.length cb) (.slice c C.length cc)
  have hb0 := box_below w (.cells #[.slice aw ws.length cw, .slice am ms.length cm, .slice a A.length ca, .slice b B.length cb, .slice c C.length cc] 26)
  obtain ⟨Y, hY⟩ : ∃ Y, Y = w.alloc (.cells #[.slice aw ws.length cw, .slice am ms.length cm, .slice a A.length ca, .slice b B.length cb, .slice c C.length cc] 26) := ⟨_, rfl⟩
  rw [← hY] at hb0 hX
  have HY := Lib.hid hY
  have hDY := hD.below hb0
  have HPY := Lib.hid (show PT Y from hP.stays hb0)
  have HB0 := Lib.hid hb0
  clear hY hb0 hP hD
  obtain ⟨z, hz⟩ : ∃ z, z = w.heap.size := ⟨_, rfl⟩
  have HZ := Lib.hid hz
  rw [← hz] at hX
  clear hz
  have HD := Lib.hid hX
  have HDY := Lib.hid hDY
  have HSZ := Lib.hid hZ
  have x0 := hX.c0
  have x1 := hX.c1
  have hmf : ∀ (fn : Fn) (first cap : Array Value) (w : World), (Instr.makeFunc fn first cap).run Tryz.prog w = .ok (.func fn first cap) w := fun _ _ _ _ => rfl
  have hU := unlike_any aw cw ws Y hDY.hW (by have := hZ.w; omega) (fun x hx => by have := hZ.big x hx; omega)
  obtain ⟨nw, hnw⟩ : ∃ nw, nw = ws.length := ⟨_, rfl⟩
  obtain ⟨nm, hnm⟩ : ∃ nm, nm = ms.length := ⟨_, rfl⟩
  have HNW := Lib.hid hnw
  have HNM := Lib.hid hnm
  rw [← hnw] at x0 hU HY HD ⊢
  rw [← hnm] at x1 HY HD ⊢
  clear hX hDY hZ hnw hnm
  go_enter Tryz.func6, Tryz.ntmps6
  go_upto_region 2 with fail
  rw [← HY.out, ← HZ.out]
  clear HY
  by_cases hl : nw = nm
  · have q0 : (((nw : Nat) : Int) != ((nm : Nat) : Int)) = false := by simp; omega
    have HL := Lib.hid hl
    clear hl
    obtain ⟨tu, htu⟩ : ∃ t, t = unlikeF ws := ⟨_, rfl⟩
    rw [← htu] at hU
    have HTU := Lib.hid htu
    clear htu
    cases tu with
    | false =>
      go_wp2_with fail
      refine hU.mono ?_
      rintro e w1 ⟨rfl, hb1⟩
      clear hU
      go_wp2_with fail
      go_ret2
      refine ⟨?_, HB0.out.trans (hb1.mono HB0.out.size)⟩
      rw [HR.out]
      unfold printF wordsOk
      rw [← HTU.out]
      simp
      rfl
    | true =>
      go_wp2_with fail
      refine hU.mono ?_
      rintro e w1 ⟨rfl, hb1⟩
      have hD1 := HD.out.below hb1 HD.out.lt
      have HD1 := Lib.hid hD1
      have HB1 := Lib.hid (HB0.out.trans (hb1.mono HB0.out.size))
      have hDY1 := HDY.out.below hb1
      have HDY1 := Lib.hid hDY1
      have HPY1 := Lib.hid (show PT w1 from HPY.out.stays hb1)
      have x1 := hD1.c1
      have x00 := hD1.c0
      rw [HNW.out] at x00
      have hMa := made_any z am aw cm cw ms ws w1 hD1.lt x00 hDY1.hW hDY1.hM (by rw [← HNW.out, ← HNM.out]; exact HL.out) (by have := HSZ.out.m; omega) (fun x hx => by have := HSZ.out.big x hx; omega)
      obtain ⟨tm, htm⟩ : ∃ t, t = madeF ws (256 + ms.length) ms (fun j => decide (j < 256)) := ⟨_, rfl⟩
      rw [← htm, ← HNM.out] at hMa
      have HTM := Lib.hid htm
      clear hU hb1 HD HB0 hD1 hDY1 x00 x0 HDY HPY htm
      cases tm with
      | false =>
        go_wp2_with fail
        refine hMa.mono ?_
        rintro e w2 ⟨rfl, hb2⟩
        clear hMa
        go_wp2_with fail
        go_ret2
        refine ⟨?_, HB1.out.trans (hb2.mono HB1.out.size)⟩
        rw [HR.out]
        unfold printF wordsOk
        rw [← HTM.out]
        simp
        rfl
      | true =>
        go_wp2_with fail
        refine hMa.mono ?_
        rintro e w2 ⟨rfl, hb2⟩
        clear hMa
        have hwok : wordsOk ws ms = true := by
          unfold wordsOk
          rw [← HTM.out, ← HTU.out]
          simp
          rw [← HNW.out, ← HNM.out]
          exact HL.out
        have HWOK := Lib.hid hwok
        have hD2 := HD1.out.below hb2 HD1.out.lt
        have HD2 := Lib.hid hD2
        have HB2 := Lib.hid (HB1.out.trans (hb2.mono HB1.out.size))
        have hDY2 := HDY1.out.below hb2
        have HDY2 := Lib.hid hDY2
        have HPY2 := Lib.hid (show PT w2 from HPY1.out.stays hb2)
        have x2 := hD2.c2
        have x3 := hD2.c3
        have x4 := hD2.c4
        have x1 := hD2.c1
        have hR1 := runes_any a ca A w2 hDY2.hA (by have := HSZ.out.a; omega)
        have hR2 := runes_any b cb B w2 hDY2.hB (by have := HSZ.out.b; omega)
        have hR3 := runes_any c cc C w2 hDY2.hC (by have := HSZ.out.c; omega)
        have hrk : runesOk A B C = (A.all spOk && B.all spOk && C.all spOk) := rfl
        obtain ⟨t1, ht1⟩ : ∃ t, t = A.all spOk := ⟨_, rfl⟩
        obtain ⟨t2, ht2⟩ : ∃ t, t = B.all spOk := ⟨_, rfl⟩
        obtain ⟨t3, ht3⟩ : ∃ t, t = C.all spOk := ⟨_, rfl⟩
        rw [← ht1] at hR1 hrk
        rw [← ht2] at hR2 hrk
        rw [← ht3] at hR3 hrk
        have HT1 := Lib.hid ht1
        have HT2 := Lib.hid ht2
        have HT3 := Lib.hid ht3
        have HRK := Lib.hid hrk
        clear hb2 HD1 HB1 hD2 hDY2 HDY1 HPY1 ht1 ht2 ht3 hrk hwok
        cases t1 with
        | false =>
          go_wp2_with fail
          refine hR1.mono ?_
          rintro e w3 ⟨rfl, hb3⟩
          clear hR1
          go_wp2_with fail
          go_ret2
          refine ⟨?_, HB2.out.trans (hb3.mono HB2.out.size)⟩
          rw [HR.out]
          unfold printF
          rw [HWOK.out, HRK.out]
          rfl
        | true =>
        cases t2 with
        | false =>
          go_wp2_with fail
          refine hR1.mono ?_
          rintro e w3 ⟨rfl, hb3⟩
          clear hR1
          have hR2 := runes_any b cb B w3 (HDY2.out.hB.below hb3) (by have := HSZ.out.b; omega)
          rw [← HT2.out] at hR2
          have x3 := (HD2.out.below hb3 HD2.out.lt).c3
          go_wp2_with fail
          refine hR2.mono ?_
          rintro e w4 ⟨rfl, hb4⟩
          have hb4 := hb3.trans (hb4.mono hb3.size)
          clear hR2
          go_wp2_with fail
          go_ret2
          refine ⟨?_, HB2.out.trans (hb4.mono HB2.out.size)⟩
          rw [HR.out]
          unfold printF
          rw [HWOK.out, HRK.out]
          rfl
        | true =>
        cases t3 with
        | false =>
          go_wp2_with fail
          refine hR1.mono ?_
          rintro e w3 ⟨rfl, hb3⟩
          clear hR1
          have hR2 := runes_any b cb B w3 (HDY2.out.hB.below hb3) (by have := HSZ.out.b; omega)
          rw [← HT2.out] at hR2
          have x3 := (HD2.out.below hb3 HD2.out.lt).c3
          go_wp2_with fail
          refine hR2.mono ?_
          rintro e w4 ⟨rfl, hb4⟩
          have hb4 := hb3.trans (hb4.mono hb3.size)
          clear hR2
          have hR3 := runes_any c cc C w4 (HDY2.out.hC.below hb4) (by have := HSZ.out.c; omega)
          rw [← HT3.out] at hR3
          have x4 := (HD2.out.below hb4 HD2.out.lt).c4
          go_wp2_with fail
          refine hR3.mono ?_
          rintro e w5 ⟨rfl, hb5⟩
          have hb5 := hb4.trans (hb5.mono hb4.size)
          clear hR3
          go_wp2_with fail
          go_ret2
          refine ⟨?_, HB2.out.trans (hb5.mono HB2.out.size)⟩
          rw [HR.out]
          unfold printF
          rw [HWOK.out, HRK.out]
          rfl
        | true =>
          go_wp2_with fail
          refine hR1.mono ?_
          rintro e w3 ⟨rfl, hb3⟩
          clear hR1
          have hR2 := runes_any b cb B w3 (HDY2.out.hB.below hb3) (by have := HSZ.out.b; omega)
          rw [← HT2.out] at hR2
          have x3 := (HD2.out.below hb3 HD2.out.lt).c3
          go_wp2_with fail
          refine hR2.mono ?_
          rintro e w4 ⟨rfl, hb4⟩
          have hb4 := hb3.trans (hb4.mono hb3.size)
          clear hR2
          have hR3 := runes_any c cc C w4 (HDY2.out.hC.below hb4) (by have := HSZ.out.c; omega)
          rw [← HT3.out] at hR3
          have x4 := (HD2.out.below hb4 HD2.out.lt).c4
          go_wp2_with fail
          refine hR3.mono ?_
          rintro e w5 ⟨rfl, hb5⟩
          have hb5 := hb4.trans (hb5.mono hb4.size)
          clear hR3 hb3 hb4
          have hD5 := HD2.out.below hb5 HD2.out.lt
          have HD5 := Lib.hid hD5
          have HB5 := Lib.hid (HB2.out.trans (hb5.mono HB2.out.size))
          have HDY5 := Lib.hid (HDY2.out.below hb5)
          have HPY5 := Lib.hid (show PT w5 from HPY2.out.stays hb5)
          have HTXT := Lib.hid (show R = (textF [10] (linesF ws ms A B C), 0) by
            rw [HR.out]
            unfold printF
            rw [HWOK.out, HRK.out]
            rfl)
          clear hD5 hb5 HD2 HB2 HDY2 HPY2 x1 x2 x3 x4 hR2 hR3 HR
          have hbl := heap_alloc_new w5 (.cells #[.pointer none, .slice none 0 0] 57)
          have hbb := box_below w5 (.cells #[.pointer none, .slice none 0 0] 57)
          obtain ⟨V, hV⟩ : ∃ V, V = w5.alloc (.cells #[.pointer none, .slice none 0 0] 57) := ⟨_, rfl⟩
          have hVs : V.heap.size = w5.heap.size + 1 := by rw [hV]; simp
          rw [← hV] at hbl hbb
          have HV := Lib.hid hV
          clear hV
          obtain ⟨bb, hbz⟩ : ∃ bb, bb = w5.heap.size := ⟨_, rfl⟩
          rw [← hbz] at hbl hVs
          have HBZ := Lib.hid hbz
          have hI0 : BI V bb bb (.slice none 0 0) [] := ⟨⟨_, .inl rfl, hbl⟩, rfl, .inl ⟨rfl, rfl⟩⟩
          have hDV := HD5.out.below hbb HD5.out.lt
          have hzb : z < bb := by rw [hbz]; exact HD5.out.lt
          have HI0 := Lib.hid hI0
          have HVS := Lib.hid hVs
          have HBV := Lib.hid (show Below bb w5 V by rw [hbz]; exact hbb)
          have x1 := hDV.c1
          clear hI0 hDV hbl hbb hbz hVs
          go_upto_region 7 with fail
          rw [← HV.out, ← HBZ.out]
          clear HV
          go_wp2_with fail
          go_loopw [48] (fun v wr => ∃ (k : Nat) (v' : Value), k ≤ nm ∧ v = .int .i64 (k : Nat) ∧ BI wr bb bb v' (accF ws ms k) ∧ Below bb w5 wr) (fun v _ => nm - (intOf v).toNat)
          case atStart => exact ⟨0, _, Nat.zero_le _, rfl, by rw [show accF ws ms 0 = [] by simp [accF, textF]]; exact HI0.out, HBV.out⟩
          case round =>
            obtain ⟨k, v', hk, rfl, hI, hB⟩ := hrel
            have hsb := hI.lt
            have HI := Lib.hid hI
            have HB := Lib.hid hB
            have hB' : Below w5.heap.size w5 wr := by rw [← HBZ.out]; exact hB
            have hDr := HDY5.out.below hB'
            have hPr : PT wr := HPY5.out.stays hB'
            have hDb := HD5.out.below hB' HD5.out.lt
            have hal := accF_len HSZ.out.big ms k (by rw [← HNM.out]; exact hk)
            have hm100 : nm ≤ 100 := by rw [HNM.out]; exact HSZ.out.m
            have HAL := Lib.hid (show (accF ws ms k).length ≤ 1887438800 by
              have : k * 18874388 ≤ 100 * 18874388 := Nat.mul_le_mul_right _ (by omega)
              omega)
            clear hB hB' hal hI
            by_cases hkn : k < nm
            · have d0 : decide ((k : Int) < (nm : Int)) = true := decide_eq_true (by omega)
              have d1 : decide (k < nm) = true := decide_eq_true hkn
              have hkm : k < ms.length := by rw [← HNM.out]; exact hkn
              obtain ⟨bm, off, rfl, hmg⟩ := hDr.hM.cellsAt hkm
              have hget : ms[k]? = some ms[k] := List.getElem?_eq_getElem hkm
              have hids := made_ids ms _ (fun j hj => decide_eq_true hj) HTM.out.symm ms[k] (List.getElem_mem hkm)
              obtain ⟨x, hx⟩ : ∃ x, x = ms[k] := ⟨_, rfl⟩
              rw [← hx] at hmg hget hids
              have HG := Lib.hid hget
              clear hx hget hkm
              obtain ⟨xl, xr, xi⟩ := x
              obtain ⟨⟨vi, hvi, vi1, vi2⟩, ⟨vl, hvl, vl2⟩, vr, hvr, vr2⟩ := hids
              simp only at hvi hvl hvr
              subst hvi hvl hvr
              obtain ⟨m0, m1, m2⟩ := hmg
              simp only at m0 m1 m2
              have ik : 0 ≤ (k : Int) ∧ (k : Int) < (nm : Int) := by omega
              have x0 := hDb.c0
              have HX0 := Lib.hid x0
              have HDr := Lib.hid hDr
              have HPr := Lib.hid hPr
              clear x0 hDr hPr hDb d1 hk
              have hbx := box_below wr (.cells #[.int .i64 (vl : Nat), .int .i64 (vr : Nat), .int .i64 (vi : Nat)] 39)
              have hxl := heap_alloc_new wr (.cells #[.int .i64 (vl : Nat), .int .i64 (vr : Nat), .int .i64 (vi : Nat)] 39)
              go_wp2_with fail
              obtain ⟨X, hX⟩ : ∃ X, X = wr.alloc (.cells #[.int .i64 (vl : Nat), .int .i64 (vr : Nat), .int .i64 (vi : Nat)] 39) := ⟨_, rfl⟩
              obtain ⟨q, hq⟩ : ∃ q, q = wr.heap.size := ⟨_, rfl⟩
              rw [← hX] at hbx hxl ⊢
              rw [← hq] at hxl ⊢
              have HQ := Lib.hid hq
              clear hX hq m0 m1 m2 d0
              have k0 := cell_regrown ((cell_of_block hxl 0).trans rfl)
              have k1 := cell_regrown ((cell_of_block hxl 1).trans rfl)
              have k2 := cell_regrown ((cell_of_block hxl 2).trans rfl)
              have x0 := (hbx.cell (World.block_lt_of_cell? wr _ HX0.out)).trans HX0.out
              rw [HNW.out] at x0
              have hWX := HDr.out.hW.below hbx
              have hPX := HPr.out.stays hbx
              have hln : ms.length = nm := HNM.out.symm
              have hlw : ws.length = nm := by rw [← HNW.out]; exact HL.out
              have HL1 := fun d os => wordOf_any z vl aw cw ws (grow (redrawn X d) os) (by omega) (by omega) (cell_regrown x0 d os) (hWX.below (below_regrown X d os))
              have HL2 := fun d os => wordOf_any z vr aw cw ws (grow (redrawn X d) os) (by omega) (by omega) (cell_regrown x0 d os) (hWX.below (below_regrown X d os))
              have HQ1 := fun d os => quote_any (wordF ws vl) (grow (redrawn X d) os) (by have := wordF_le ws HSZ.out.big vl; omega)
              have HQ2 := fun d os => quote_any (wordF ws vr) (grow (redrawn X d) os) (by have := wordF_le ws HSZ.out.big vr; omega)
              have HIt := fun d os => itoa_any vi vi1 (by omega) (grow (redrawn X d) os) (hPX.stays (below_regrown X d os))
              have HXL := Lib.hid hxl
              clear hxl x0 hWX hPX hln hlw
              refine wp_region_quiet_tail (C := fun w' => ∃ p : Regrown, w' = grow (redrawn X p.d) p.os) 13 (by kernel_rfl) (by kernel_rfl) ⟨⟨_, #[]⟩, by rw [grow_empty]; rfl⟩ ?_
              simp only [List.take_succ_cons, List.take_zero, List.drop_succ_cons, List.drop_zero]
              repeat (go_big_quiet_step (fail))
              go_big_quiet_step ((go_at_call 14; exact Calls.regrown_of (HL1 _ _)))
              repeat (go_big_quiet_step (fail))
              go_big_quiet_step ((go_at_call 10; exact Calls.regrown_of (HQ1 _ _)))
              repeat (go_big_quiet_step (fail))
              go_big_quiet_step ((go_at_call 14; exact Calls.regrown_of (HL2 _ _)))
              repeat (go_big_quiet_step (fail))
              go_big_quiet_step ((go_at_call 10; exact Calls.regrown_of (HQ2 _ _)))
              repeat (go_big_quiet_step (fail))
              go_big_quiet_step ((go_at_call 19; exact Calls.regrown_of (HIt _ _)))
              refine wpQuiet_nil ?_
              intro W5 hw'
              have hb5 : Below X.heap.size X W5 := by
                obtain ⟨⟨dq, osq⟩, rfl⟩ := hw'
                exact below_regrown _ _ _
              clear hw' k0 k1 k2 HL1 HL2 HQ1 HQ2 HIt HXL
              have hb6 := hbx.trans (hb5.mono hbx.size)
              have hI5 := HI.out.below hb6
              have hsl := box_below W5 (.cells #[.string (textOf sMerge), .string (textOf (quoteF (tl (wordF ws vl)))), .string (textOf sPlus), .string (textOf (quoteF (tl (wordF ws vr)))), .string (textOf sEq), .string (textOf (dec3 vi))] 9)
              have hnw := heap_alloc_new W5 (.cells #[.string (textOf sMerge), .string (textOf (quoteF (tl (wordF ws vl)))), .string (textOf sPlus), .string (textOf (quoteF (tl (wordF ws vr)))), .string (textOf sEq), .string (textOf (dec3 vi))] 9)
              have hI6 := hI5.below hsl
              have hb7 := hb6.trans (hsl.mono hb6.size)
              have HB7 := Lib.hid hb7
              have hgetX := HG.out
              have hml := jn_len _ _ (merge_len HSZ.out.big ⟨(vl : Int), (vr : Int), (vi : Int)⟩)
              have hwl := writeLine_any bb bb v' (accF ws ms k) W5.heap.size 6 _ (mergeT ws ⟨(vl : Int), (vr : Int), (vi : Int)⟩) _ hI6 (by have := hb7.size; omega) hnw (by
                intro i hi
                have hi6 : i < 6 := hi
                have : i = 0 ∨ i = 1 ∨ i = 2 ∨ i = 3 ∨ i = 4 ∨ i = 5 := by omega
                rcases this with rfl | rfl | rfl | rfl | rfl | rfl <;> rfl) (by
                intro k' hk'
                have h6 : k' ≤ 6 := hk'
                have h7 := hml k'
                have h8 := HAL.out
                have : k' * (3145730 + 1) ≤ 6 * (3145730 + 1) := Nat.mul_le_mul_right _ h6
                omega) (by show 6 ≤ _; omega)
              rw [show (mergeT ws ⟨(vl : Int), (vr : Int), (vi : Int)⟩).length = 6 from rfl] at hwl
              have HWL := Lib.hid hwl
              have HI6 := Lib.hid hI6
              clear hb5 hb6 hsl hnw hI5 hI6 hb7 hml hbx hgetX hwl
              go_wp2_with fail
              refine HWL.out.mono ?_
              rintro e w7 ⟨rfl, v7, hI7, hB7, hM7⟩
              have hbe := HI6.out.wrote_below hB7
              have HBE := Lib.hid (HB.out.trans ((HB7.out.mono (by omega)).trans hbe))
              have HI7 := Lib.hid (show BI w7 bb bb v7 (accF ws ms (k + 1)) by rw [accF_succ HG.out]; exact hI7)
              clear hI7 hB7 hM7 hbe HI6 HWL
              go_wp2_with fail
              go_roundw
              case rel => exact ⟨k + 1, v7, by omega, by go_num, HI7.out, HBE.out⟩
              case measure => simp [intOf]; omega
            · have d0 : decide ((k : Int) < (nm : Int)) = false := decide_eq_false (by omega)
              have d1 : decide (k < nm) = false := decide_eq_false hkn
              have hkm : k = ms.length := by rw [← HNM.out]; omega
              have HKM := Lib.hid hkm
              have hDb5 := hDb
              have x2 := hDb.c2
              have HDb := Lib.hid hDb
              have HDr := Lib.hid hDr
              have hCA := class_any nmL a ca A wr hDr.hA (by have := HSZ.out.a; omega) HT1.out.symm
              clear hkm hDb hDb5 hDr hPr hk hkn
              go_upto_region 12 with fail
              clear d0 d1
              go_wp2_with fail
              refine hCA.mono ?_
              rintro e w7 ⟨v7, rfl, hO7, hb7⟩
              obtain ⟨t7, c7, cur7, rfl, hT7, hc7⟩ := toks hO7 (by unfold clsT; simp)
              have hl7 := cls_len (nm := nmL) (by decide) HT1.out.symm
              have hI7 := HI.out.below hb7
              have HB7 := Lib.hid (HB.out.trans (hb7.mono (by omega)))
              have hW7 := writeLine_any bb bb v' _ t7 c7 cur7 (clsT nmL A) w7 hI7 (by have := hb7.size; omega) hT7 hc7 (by
                intro k' hk'
                have h1 := jn_len _ _ hl7.1 k'
                have h2 := HAL.out
                have h3 := hl7.2
                have h4 := HSZ.out.a
                omega) (by have h3 := hl7.2; have h4 := HSZ.out.a; omega)
              have HW7 := Lib.hid hW7
              have HI7 := Lib.hid hI7
              have hs7 := hb7.size
              clear hCA hO7 hb7 hT7 hc7 hl7 hI7 hW7 x2
              go_wp2_with fail
              refine HW7.out.mono ?_
              rintro e w8 ⟨rfl, v8, hI8, hB8, hM8⟩
              have hb8 := HI7.out.wrote_below hB8
              have HB8 := Lib.hid (HB7.out.trans hb8)
              have hl8 := cls_len (nm := nmL) (by decide) HT1.out.symm
              have ha8 : (accF ws ms k ++ (jn (clsT nmL A) (clsT nmL A).length ++ [10])).length ≤ 2000000000 := by
                have h1 := jn_len _ _ hl8.1 (clsT nmL A).length
                have h2 := HAL.out
                have h3 := hl8.2
                have h4 := HSZ.out.a
                rw [List.length_append, List.length_append]
                show _ + (_ + 1) ≤ _
                omega
              have HA8 := Lib.hid ha8
              have HI8 := Lib.hid hI8
              have hs8 := hb8.size
              have h8w : Below w5.heap.size w5 w8 := by rw [← HBZ.out]; exact HB8.out
              have hDr8 := HDY5.out.below h8w
              have hDb8 := HD5.out.below h8w HD5.out.lt
              have x3 := hDb8.c3
              have hCB := class_any nmN b cb B w8 hDr8.hB (by have := HSZ.out.b; omega) HT2.out.symm
              clear hI8 hB8 hM8 hb8 hl8 ha8 HW7 HI7 HB7 h8w hDr8 hDb8
              go_wp2_with fail
              refine hCB.mono ?_
              rintro e w9 ⟨v9, rfl, hO9, hb9⟩
              obtain ⟨t9, c9, cur9, rfl, hT9, hc9⟩ := toks hO9 (by unfold clsT; simp)
              have hl9 := cls_len (nm := nmN) (by decide) HT2.out.symm
              have hI9 := HI8.out.below hb9
              have HB9 := Lib.hid (HB8.out.trans (hb9.mono (by omega)))
              have hW9 := writeLine_any bb bb v8 _ t9 c9 cur9 (clsT nmN B) w9 hI9 (by have := hb9.size; omega) hT9 hc9 (by
                intro k' hk'
                have h1 := jn_len _ _ hl9.1 k'
                have h2 := HA8.out
                have h3 := hl9.2
                have h4 := HSZ.out.b
                omega) (by have h3 := hl9.2; have h4 := HSZ.out.b; omega)
              have HW9 := Lib.hid hW9
              have HI9 := Lib.hid hI9
              have hs9 := hb9.size
              clear hCB hO9 hb9 hT9 hc9 hl9 hI9 hW9 x3
              go_wp2_with fail
              refine HW9.out.mono ?_
              rintro e w10 ⟨rfl, v10, hI10, hB10, hM10⟩
              have hb10 := HI9.out.wrote_below hB10
              have HB10 := Lib.hid (HB9.out.trans hb10)
              have hl10 := cls_len (nm := nmN) (by decide) HT2.out.symm
              have ha10 : (accF ws ms k ++ (jn (clsT nmL A) (clsT nmL A).length ++ [10]) ++ (jn (clsT nmN B) (clsT nmN B).length ++ [10])).length ≤ 2100000000 := by
                have h1 := jn_len _ _ hl10.1 (clsT nmN B).length
                have h2 := HA8.out
                have h3 := hl10.2
                have h4 := HSZ.out.b
                have e3 : (jn (clsT nmN B) (clsT nmN B).length ++ [(10 : UInt8)]).length = (jn (clsT nmN B) (clsT nmN B).length).length + 1 := by rw [List.length_append]; rfl
                rw [List.length_append]
                omega
              have HA10 := Lib.hid ha10
              have HI10 := Lib.hid hI10
              have hs10 := hb10.size
              have h10w : Below w5.heap.size w5 w10 := by rw [← HBZ.out]; exact HB10.out
              have hDr10 := HDY5.out.below h10w
              have hDb10 := HD5.out.below h10w HD5.out.lt
              have x4 := hDb10.c4
              have hCC := class_any nmS c cc C w10 hDr10.hC (by have := HSZ.out.c; omega) HT3.out.symm
              clear hI10 hB10 hM10 hb10 hl10 ha10 HW9 HI9 HB9 h10w hDr10 hDb10
              go_wp2_with fail
              refine hCC.mono ?_
              rintro e w11 ⟨v11, rfl, hO11, hb11⟩
              obtain ⟨t11, c11, cur11, rfl, hT11, hc11⟩ := toks hO11 (by unfold clsT; simp)
              have hl11 := cls_len (nm := nmS) (by decide) HT3.out.symm
              have hI11 := HI10.out.below hb11
              have HB11 := Lib.hid (HB10.out.trans (hb11.mono (by omega)))
              have hW11 := writeLine_any bb bb v10 _ t11 c11 cur11 (clsT nmS C) w11 hI11 (by have := hb11.size; omega) hT11 hc11 (by
                intro k' hk'
                have h1 := jn_len _ _ hl11.1 k'
                have h2 := HA10.out
                have h3 := hl11.2
                have h4 := HSZ.out.c
                omega) (by have h3 := hl11.2; have h4 := HSZ.out.c; omega)
              have HW11 := Lib.hid hW11
              have HI11 := Lib.hid hI11
              have hs11 := hb11.size
              clear hCC hO11 hb11 hT11 hc11 hl11 hI11 hW11 x4
              go_wp2_with fail
              refine HW11.out.mono ?_
              rintro e w12 ⟨rfl, v12, hI12, hB12, hM12⟩
              have hb12 := HI11.out.wrote_below hB12
              have HB12 := Lib.hid (HB11.out.trans hb12)
              obtain ⟨TX, hTX⟩ : ∃ TX, TX = accF ws ms k ++ (jn (clsT nmL A) (clsT nmL A).length ++ [10]) ++ (jn (clsT nmN B) (clsT nmN B).length ++ [10]) ++ (jn (clsT nmS C) (clsT nmS C).length ++ [10]) := ⟨_, rfl⟩
              rw [← hTX] at hI12
              have HTX := Lib.hid hTX
              have hS := string_any bb bb v12 _ w12 hI12 (by rw [hTX]; simp) (by have := hb12.size; omega)
              clear hTX
              clear hI12 hB12 hM12 hb12 HW11 HI11
              go_wp2_with fail
              refine hS.mono ?_
              rintro e w13 ⟨rfl, hb13⟩
              clear hS
              go_wp2_with fail
              go_ret2
              have hbw : w.heap.size ≤ bb := by have := HBZ.out; have := HB5.out.size; omega
              refine ⟨?_, HB5.out.trans ((HB12.out.mono hbw).trans (hb13.mono hbw))⟩
              rw [HTXT.out, text_all, ← HKM.out]
              show Ending.returned (.tuple #[.string (textOf TX), .int .i64 0]) = _
              rw [HTX.out]
              rfl
  · have q0 : (((nw : Nat) : Int) != ((nm : Nat) : Int)) = true := by simp; omega
    have HL := Lib.hid hl
    clear hl
    clear hU
    go_wp2_with fail
    go_ret2
    refine ⟨?_, HB0.out⟩
    rw [HR.out]
    unfold printF wordsOk
    rw [decide_eq_false (by rw [← HNW.out, ← HNM.out]; exact HL.out)]
    simp
    rfl
end Go.Proofs.YtonbfcpbgkpbaaaGreatDoor
end
section
/- The reader's own Quote: its contract. -/
namespace Go.Proofs.YtonbfcpbgkpbaaaGreatDoor
open Go.RowKit Go.Sort Go.Joins
set_option linter.unusedVariables false
set_option linter.unusedSimpArgs false
set_option maxRecDepth 100000
attribute [local irreducible] hexC
theorem text_new (wr : World) (r : List UInt8) : (convert 50 9 (.slice (some ⟨wr.heap.size, 0, none⟩) r.length r.length)).run Tryz.prog (wr.alloc (.cells (r.map bv).toArray 5)) = .ok (.string (textOf r)) (wr.alloc (.cells (r.map bv).toArray 5)) := by
  refine text_bytes 50 5 9 Tryz.underlying50 Tryz.underlying5 Tryz.underlying9 wr.heap.size 0 r.length r _ (fun j hj => ?_)
  rw [Nat.zero_add, cell_of_block (heap_alloc_new wr _)]
  simp [List.getD, List.getElem?_eq_getElem hj, bv]
theorem conv_exec (o : Oper) (x : Operand) (hop : o.op = Op.convert 50 9 x) (a : Act) (v : Value) (hx : a.eval x = v) (w : World) (u : Value) (h : (convert 50 9 v).run Tryz.prog w = .ok u w) : (execOp a.eval o).run Tryz.prog w = .ok (.value u) w := by
  simp only [execOp, hop, hx, Sem.run_bind, h, Result.andThen]
  rfl
set_option maxHeartbeats 4000000 in
theorem rquote_any (s : ByteArray) (w : World) (hs : s.size ≤ 4194304) :
    Calls Tryz.prog 25 #[.string s] w fun e w' => e = .returned (.string (textOf (quoteF (tl s)))) ∧ Below w.heap.size w w' := by
  obtain ⟨Q, hQ⟩ : ∃ Q, Q = quoteF (tl s) := ⟨_, rfl⟩
  rw [← hQ]
  have HQ := Lib.hid hQ
  clear hQ
  go_enter Tryz.func25, Tryz.ntmps25
  go_wp2_with fail
  go_loopw [3, 4] (fun sv i wr => ∃ (k : Nat) (acc : List UInt8) (x : ByteArray), Value.string x = sv ∧ k ≤ s.size ∧ i = .int .i64 (k : Nat) ∧ x = textOf acc ∧ acc = 34 :: ((tl s).take k).flatMap quoteB ∧ Below w.heap.size w wr) (fun _ i _ => s.size - (intOf i).toNat)
  case atStart => exact ⟨0, [34], _, rfl, Nat.zero_le _, rfl, rfl, rfl, Below.refl _ _⟩
  case round =>
    obtain ⟨k, acc, x, rfl, hk, rfl, hx, hacc, hBw⟩ := hrel
    have hal : x.size ≤ 12582913 := by
      rw [hx, text_size, hacc, List.length_cons]
      have := quoteT_len ((tl s).take k)
      rw [List.length_take] at this
      omega
    have hbs := hBw.size
    by_cases hlt : k < s.size
    · have hkl : k < (tl s).length := by simpa using hlt
      have g0 : decide ((k : Int) < (s.size : Int)) = true := decide_eq_true (by omega)
      obtain ⟨c, hc⟩ : ∃ c, c = (tl s)[k] := ⟨_, rfl⟩
      have hci : ∀ wx : World, (Instr.index 9 (.string s) (.int .i64 (k : Nat))).run Tryz.prog wx = .ok (.int .u8 (c.toNat : Int)) wx := fun wx => by
        rw [hc, show (tl s)[k] = s[k] from rfl]
        go_simp
      have hs1 : 34 :: ((tl s).take (k + 1)).flatMap quoteB = acc ++ quoteB c := by
        rw [List.take_succ_eq_append_getElem hkl, List.flatMap_append, hacc, hc]
        simp
      have HST : Hid (∀ (r : List UInt8) (y : ByteArray), quoteB c = r → y = textOf (acc ++ r) → ∃ acc', y = textOf acc' ∧ acc' = 34 :: ((tl s).take (k + 1)).flatMap quoteB) := Lib.hid (fun r y hq hy => ⟨acc ++ r, hy, by rw [hs1, hq]⟩)
      have hb8 : c.toNat < 256 := UInt8.toNat_lt c
      have HXX := Lib.hid hx
      have HBW := Lib.hid hBw
      clear hs1 hc hacc hkl hx
      by_cases hA : c.toNat = 34 ∨ c.toNat = 92
      · have hq : quoteB c = [92, c] := by unfold quoteB; rw [if_pos hA]
        have HQB := Lib.hid hq
        have hcv : (convert 50 9 (.slice (some ⟨wr.heap.size, 0, none⟩) 1 1)).run Tryz.prog (wr.alloc (.cells #[.int .u8 (c.toNat : Int)] 5)) = .ok (.string (textOf [c])) (wr.alloc (.cells #[.int .u8 (c.toNat : Int)] 5)) := text_new wr [c]
        have hz1 : (textOf [c]).size = 1 := rfl
        rcases hA with hA | hA
        · have g1 : ((c.toNat : Int) == 34) = true := by simp; omega
          clear hA hq
          go_wp2_with fail
          obtain ⟨acc', ha, hE⟩ := HST.out _ (x ++ { data := #[92] } ++ textOf [c]) HQB.out (by rw [HXX.out, show ({ data := #[92] } : ByteArray) = textOf [92] from rfl, text_append, text_append, List.append_assoc]; rfl)
          exact ⟨⟨k + 1, acc', _, rfl, by omega, by go_num, ha, hE, HBW.out.trans ((box_below wr _).mono hbs)⟩, by simp only [intOf]; omega⟩
        · have g1 : ((c.toNat : Int) == 34) = false := by simp; omega
          have g2 : ((c.toNat : Int) == 92) = true := by simp; omega
          clear hA hq
          go_wp2_with fail
          obtain ⟨acc', ha, hE⟩ := HST.out _ (x ++ { data := #[92] } ++ textOf [c]) HQB.out (by rw [HXX.out, show ({ data := #[92] } : ByteArray) = textOf [92] from rfl, text_append, text_append, List.append_assoc]; rfl)
          exact ⟨⟨k + 1, acc', _, rfl, by omega, by go_num, ha, hE, HBW.out.trans ((box_below wr _).mono hbs)⟩, by simp only [intOf]; omega⟩
      · have g1 : ((c.toNat : Int) == 34) = false := by simp; omega
        have g2 : ((c.toNat : Int) == 92) = false := by simp; omega
        have hz1 : (textOf [c]).size = 1 := rfl
        have hcv : (convert 50 9 (.slice (some ⟨wr.heap.size, 0, none⟩) 1 1)).run Tryz.prog (wr.alloc (.cells #[.int .u8 (c.toNat : Int)] 5)) = .ok (.string (textOf [c])) (wr.alloc (.cells #[.int .u8 (c.toNat : Int)] 5)) := text_new wr [c]
        by_cases hB : 32 ≤ c.toNat ∧ c.toNat ≤ 126
        · have hq : quoteB c = [c] := by unfold quoteB; rw [if_neg hA, if_pos hB]
          have HQB := Lib.hid hq
          have g3 : decide ((32 : Int) ≤ (c.toNat : Int)) = true := decide_eq_true (by omega)
          have g4 : decide ((c.toNat : Int) ≤ 126) = true := decide_eq_true (by omega)
          clear hA hB hq
          go_wp2_with fail
          obtain ⟨acc', ha, hE⟩ := HST.out _ (x ++ textOf [c]) HQB.out (by rw [HXX.out, text_append])
          exact ⟨⟨k + 1, acc', _, rfl, by omega, by go_num, ha, hE, HBW.out.trans ((box_below wr _).mono hbs)⟩, by simp only [intOf]; omega⟩
        · have hq : quoteB c = [92, hexC (c.toNat / 16), hexC (c.toNat % 16)] := by unfold quoteB; rw [if_neg hA, if_neg hB]
          have HQB := Lib.hid hq
          have hp : (∃ _ : decide ((32 : Int) ≤ (c.toNat : Int)) = true, decide ((c.toNat : Int) ≤ 126) = false) ∨ decide ((32 : Int) ≤ (c.toNat : Int)) = false := by
            by_cases h : 32 ≤ c.toNat
            · exact .inl ⟨decide_eq_true (by omega), decide_eq_false (by omega)⟩
            · exact .inr (decide_eq_false (by omega))
          obtain ⟨n1, hn1⟩ : ∃ n, n = c.toNat / 16 := ⟨_, rfl⟩
          obtain ⟨n2, hn2⟩ : ∃ n, n = c.toNat % 16 := ⟨_, rfl⟩
          have h15 := and_15 c.toNat hb8
          rw [← hn2] at h15
          rw [← hn1, ← hn2] at HQB
          have HA15 := Lib.hid h15
          have HE1 := Lib.hid hn1
          have HN1 : Hid (n1 < 16) := Lib.hid (by omega)
          have HN2 : Hid (n2 < 16) := Lib.hid (by omega)
          have hcv2 : (convert 50 9 (.slice (some ⟨wr.heap.size, 0, none⟩) 2 2)).run Tryz.prog (wr.drew.alloc (.cells #[.int .u8 ((hexC n1).toNat : Int), .int .u8 ((hexC n2).toNat : Int)] 5)) = .ok (.string (textOf [hexC n1, hexC n2])) (wr.drew.alloc (.cells #[.int .u8 ((hexC n1).toNat : Int), .int .u8 ((hexC n2).toNat : Int)] 5)) := text_new wr.drew [hexC n1, hexC n2]
          have hz2 : (textOf [hexC n1, hexC n2]).size = 2 := rfl
          clear hn1 hn2 h15 hcv hA hB hq
          rcases hp with ⟨g3, g4⟩ | g3
          · go_upto_region 10 with fail
            refine wp_region_heldtail 11 (fun _ : World => True) (by kernel_rfl) (by kernel_rfl) ?_
            refine HL_take (i := 0) (.string x) (by kernel_rfl) rfl (by omega) (by kernel_rfl) (by kernel_rfl) (by kernel_rfl) (fun _ _ _ h => h) (.inl ⟨by kernel_rfl, fun w' hw' => by go_simp⟩) trivial ?_
            simp only [Act.put, List.getElem_toArray, List.getElem_cons_zero, List.getElem_cons_succ, List.setIfInBounds_toArray, List.set_cons_zero, List.set_cons_succ]
            refine HL_take (i := 1) (.string (x ++ { data := #[92] })) (by kernel_rfl) rfl (by omega) (by kernel_rfl) (by kernel_rfl) (by kernel_rfl) (fun _ _ _ h => h) (.inl ⟨by kernel_rfl, fun w' hw' => by go_simp; omega⟩) trivial ?_
            simp only [Act.put, List.getElem_toArray, List.getElem_cons_zero, List.getElem_cons_succ, List.setIfInBounds_toArray, List.set_cons_zero, List.set_cons_succ]
            refine HL_take (i := 2) (.int .u8 (c.toNat : Int)) (by kernel_rfl) rfl (by omega) (by kernel_rfl) (by kernel_rfl) (by kernel_rfl) (fun _ _ _ h => h) (.inl ⟨by kernel_rfl, fun w' hw' => by go_simp⟩) trivial ?_
            simp only [Act.put, List.getElem_toArray, List.getElem_cons_zero, List.getElem_cons_succ, List.setIfInBounds_toArray, List.set_cons_zero, List.set_cons_succ]
            refine HL_take (i := 3) (.int .u8 (n1 : Nat)) (by kernel_rfl) rfl (by omega) (by kernel_rfl) (by kernel_rfl) (by kernel_rfl) (fun _ _ _ h => h) (.inl ⟨by kernel_rfl, fun w' hw' => by go_simp; have := HE1.out; omega⟩) trivial ?_
            simp only [Act.put, List.getElem_toArray, List.getElem_cons_zero, List.getElem_cons_succ, List.setIfInBounds_toArray, List.set_cons_zero, List.set_cons_succ]
            refine HL_take (i := 4) (.int .u8 ((hexC n1).toNat : Int)) (by kernel_rfl) rfl (by omega) (by kernel_rfl) (by kernel_rfl) (by kernel_rfl) (fun _ _ _ h => h) (.inl ⟨by kernel_rfl, fun w' hw' => index_exec n1 HN1.out _ (.tmp 41) rfl _ rfl w'⟩) trivial ?_
            simp only [Act.put, List.getElem_toArray, List.getElem_cons_zero, List.getElem_cons_succ, List.setIfInBounds_toArray, List.set_cons_zero, List.set_cons_succ]
            refine HL_take (i := 5) (.int .u8 (c.toNat : Int)) (by kernel_rfl) rfl (by omega) (by kernel_rfl) (by kernel_rfl) (by kernel_rfl) (fun _ _ _ h => h) (.inl ⟨by kernel_rfl, fun w' hw' => by go_simp⟩) trivial ?_
            simp only [Act.put, List.getElem_toArray, List.getElem_cons_zero, List.getElem_cons_succ, List.setIfInBounds_toArray, List.set_cons_zero, List.set_cons_succ]
            refine HL_take (i := 6) (.int .u8 (n2 : Nat)) (by kernel_rfl) rfl (by omega) (by kernel_rfl) (by kernel_rfl) (by kernel_rfl) (fun _ _ _ h => h) (.inl ⟨by kernel_rfl, fun w' hw' => by go_simp; exact HA15.out⟩) trivial ?_
            simp only [Act.put, List.getElem_toArray, List.getElem_cons_zero, List.getElem_cons_succ, List.setIfInBounds_toArray, List.set_cons_zero, List.set_cons_succ]
            refine HL_take (i := 7) (.int .u8 ((hexC n2).toNat : Int)) (by kernel_rfl) rfl (by omega) (by kernel_rfl) (by kernel_rfl) (by kernel_rfl) (fun _ _ _ h => h) (.inl ⟨by kernel_rfl, fun w' hw' => index_exec n2 HN2.out _ (.tmp 44) rfl _ rfl w'⟩) trivial ?_
            simp only [Act.put, List.getElem_toArray, List.getElem_cons_zero, List.getElem_cons_succ, List.setIfInBounds_toArray, List.set_cons_zero, List.set_cons_succ]
            refine HL_one (i := 8) rfl (by omega) (by kernel_rfl) rfl ?_
            refine wp_value (v := .slice (some ⟨wr.heap.size, 0, none⟩) 2 2) (w' := wr.drew.alloc (.cells #[.int .u8 ((hexC n1).toNat : Int), .int .u8 ((hexC n2).toNat : Int)] 5)) (by go_simp) ?_
            refine ⟨trivial, ?_⟩
            simp only [Act.put, List.getElem_toArray, List.getElem_cons_zero, List.getElem_cons_succ, List.setIfInBounds_toArray, List.set_cons_zero, List.set_cons_succ]
            refine HL_one (i := 9) rfl (by omega) (by kernel_rfl) rfl ?_
            refine wp_value (v := .string (textOf [hexC n1, hexC n2])) (w' := wr.drew.alloc (.cells #[.int .u8 ((hexC n1).toNat : Int), .int .u8 ((hexC n2).toNat : Int)] 5)) (by exact conv_exec _ (.tmp 46) rfl _ (.slice (some ⟨wr.heap.size, 0, none⟩) 2 2) rfl _ _ hcv2) ?_
            refine ⟨trivial, ?_⟩
            simp only [Act.put, List.getElem_toArray, List.getElem_cons_zero, List.getElem_cons_succ, List.setIfInBounds_toArray, List.set_cons_zero, List.set_cons_succ]
            refine HL_take (i := 10) (.string (x ++ { data := #[92] } ++ textOf [hexC n1, hexC n2])) (by kernel_rfl) rfl (by omega) (by kernel_rfl) (by kernel_rfl) (by kernel_rfl) (fun _ _ _ h => h) (.inl ⟨by kernel_rfl, fun w' hw' => by go_simp; omega⟩) trivial ?_
            simp only [Act.put, List.getElem_toArray, List.getElem_cons_zero, List.getElem_cons_succ, List.setIfInBounds_toArray, List.set_cons_zero, List.set_cons_succ]
            refine ⟨by kernel_rfl, ?_⟩
            simp only [List.drop_succ_cons, List.drop_zero]
            go_wp2_with fail
            obtain ⟨acc', ha, hE⟩ := HST.out _ (x ++ { data := #[92] } ++ textOf [hexC n1, hexC n2]) HQB.out (by rw [HXX.out, show ({ data := #[92] } : ByteArray) = textOf [92] from rfl, text_append, text_append, List.append_assoc]; rfl)
            exact ⟨⟨k + 1, acc', _, rfl, by omega, by go_num, ha, hE, HBW.out.trans (((below_drewN (Below.refl wr.heap.size wr) 1).trans (box_below wr.drew _)).mono hbs)⟩, by simp only [intOf]; omega⟩
          · go_upto_region 10 with fail
            refine wp_region_heldtail 11 (fun _ : World => True) (by kernel_rfl) (by kernel_rfl) ?_
            refine HL_take (i := 0) (.string x) (by kernel_rfl) rfl (by omega) (by kernel_rfl) (by kernel_rfl) (by kernel_rfl) (fun _ _ _ h => h) (.inl ⟨by kernel_rfl, fun w' hw' => by go_simp⟩) trivial ?_
            simp only [Act.put, List.getElem_toArray, List.getElem_cons_zero, List.getElem_cons_succ, List.setIfInBounds_toArray, List.set_cons_zero, List.set_cons_succ]
            refine HL_take (i := 1) (.string (x ++ { data := #[92] })) (by kernel_rfl) rfl (by omega) (by kernel_rfl) (by kernel_rfl) (by kernel_rfl) (fun _ _ _ h => h) (.inl ⟨by kernel_rfl, fun w' hw' => by go_simp; omega⟩) trivial ?_
            simp only [Act.put, List.getElem_toArray, List.getElem_cons_zero, List.getElem_cons_succ, List.setIfInBounds_toArray, List.set_cons_zero, List.set_cons_succ]
            refine HL_take (i := 2) (.int .u8 (c.toNat : Int)) (by kernel_rfl) rfl (by omega) (by kernel_rfl) (by kernel_rfl) (by kernel_rfl) (fun _ _ _ h => h) (.inl ⟨by kernel_rfl, fun w' hw' => by go_simp⟩) trivial ?_
            simp only [Act.put, List.getElem_toArray, List.getElem_cons_zero, List.getElem_cons_succ, List.setIfInBounds_toArray, List.set_cons_zero, List.set_cons_succ]
            refine HL_take (i := 3) (.int .u8 (n1 : Nat)) (by kernel_rfl) rfl (by omega) (by kernel_rfl) (by kernel_rfl) (by kernel_rfl) (fun _ _ _ h => h) (.inl ⟨by kernel_rfl, fun w' hw' => by go_simp; have := HE1.out; omega⟩) trivial ?_
            simp only [Act.put, List.getElem_toArray, List.getElem_cons_zero, List.getElem_cons_succ, List.setIfInBounds_toArray, List.set_cons_zero, List.set_cons_succ]
            refine HL_take (i := 4) (.int .u8 ((hexC n1).toNat : Int)) (by kernel_rfl) rfl (by omega) (by kernel_rfl) (by kernel_rfl) (by kernel_rfl) (fun _ _ _ h => h) (.inl ⟨by kernel_rfl, fun w' hw' => index_exec n1 HN1.out _ (.tmp 41) rfl _ rfl w'⟩) trivial ?_
            simp only [Act.put, List.getElem_toArray, List.getElem_cons_zero, List.getElem_cons_succ, List.setIfInBounds_toArray, List.set_cons_zero, List.set_cons_succ]
            refine HL_take (i := 5) (.int .u8 (c.toNat : Int)) (by kernel_rfl) rfl (by omega) (by kernel_rfl) (by kernel_rfl) (by kernel_rfl) (fun _ _ _ h => h) (.inl ⟨by kernel_rfl, fun w' hw' => by go_simp⟩) trivial ?_
            simp only [Act.put, List.getElem_toArray, List.getElem_cons_zero, List.getElem_cons_succ, List.setIfInBounds_toArray, List.set_cons_zero, List.set_cons_succ]
            refine HL_take (i := 6) (.int .u8 (n2 : Nat)) (by kernel_rfl) rfl (by omega) (by kernel_rfl) (by kernel_rfl) (by kernel_rfl) (fun _ _ _ h => h) (.inl ⟨by kernel_rfl, fun w' hw' => by go_simp; exact HA15.out⟩) trivial ?_
            simp only [Act.put, List.getElem_toArray, List.getElem_cons_zero, List.getElem_cons_succ, List.setIfInBounds_toArray, List.set_cons_zero, List.set_cons_succ]
            refine HL_take (i := 7) (.int .u8 ((hexC n2).toNat : Int)) (by kernel_rfl) rfl (by omega) (by kernel_rfl) (by kernel_rfl) (by kernel_rfl) (fun _ _ _ h => h) (.inl ⟨by kernel_rfl, fun w' hw' => index_exec n2 HN2.out _ (.tmp 44) rfl _ rfl w'⟩) trivial ?_
            simp only [Act.put, List.getElem_toArray, List.getElem_cons_zero, List.getElem_cons_succ, List.setIfInBounds_toArray, List.set_cons_zero, List.set_cons_succ]
            refine HL_one (i := 8) rfl (by omega) (by kernel_rfl) rfl ?_
            refine wp_value (v := .slice (some ⟨wr.heap.size, 0, none⟩) 2 2) (w' := wr.drew.alloc (.cells #[.int .u8 ((hexC n1).toNat : Int), .int .u8 ((hexC n2).toNat : Int)] 5)) (by go_simp) ?_
            refine ⟨trivial, ?_⟩
            simp only [Act.put, List.getElem_toArray, List.getElem_cons_zero, List.getElem_cons_succ, List.setIfInBounds_toArray, List.set_cons_zero, List.set_cons_succ]
            refine HL_one (i := 9) rfl (by omega) (by kernel_rfl) rfl ?_
            refine wp_value (v := .string (textOf [hexC n1, hexC n2])) (w' := wr.drew.alloc (.cells #[.int .u8 ((hexC n1).toNat : Int), .int .u8 ((hexC n2).toNat : Int)] 5)) (by exact conv_exec _ (.tmp 46) rfl _ (.slice (some ⟨wr.heap.size, 0, none⟩) 2 2) rfl _ _ hcv2) ?_
            refine ⟨trivial, ?_⟩
            simp only [Act.put, List.getElem_toArray, List.getElem_cons_zero, List.getElem_cons_succ, List.setIfInBounds_toArray, List.set_cons_zero, List.set_cons_succ]
            refine HL_take (i := 10) (.string (x ++ { data := #[92] } ++ textOf [hexC n1, hexC n2])) (by kernel_rfl) rfl (by omega) (by kernel_rfl) (by kernel_rfl) (by kernel_rfl) (fun _ _ _ h => h) (.inl ⟨by kernel_rfl, fun w' hw' => by go_simp; omega⟩) trivial ?_
            simp only [Act.put, List.getElem_toArray, List.getElem_cons_zero, List.getElem_cons_succ, List.setIfInBounds_toArray, List.set_cons_zero, List.set_cons_succ]
            refine ⟨by kernel_rfl, ?_⟩
            simp only [List.drop_succ_cons, List.drop_zero]
            go_wp2_with fail
            obtain ⟨acc', ha, hE⟩ := HST.out _ (x ++ { data := #[92] } ++ textOf [hexC n1, hexC n2]) HQB.out (by rw [HXX.out, show ({ data := #[92] } : ByteArray) = textOf [92] from rfl, text_append, text_append, List.append_assoc]; rfl)
            exact ⟨⟨k + 1, acc', _, rfl, by omega, by go_num, ha, hE, HBW.out.trans (((below_drewN (Below.refl wr.heap.size wr) 1).trans (box_below wr.drew _)).mono hbs)⟩, by simp only [intOf]; omega⟩
    · have hkk : k = s.size := by omega
      have g0 : decide ((k : Int) < (s.size : Int)) = false := decide_eq_false (by omega)
      have hacc2 : Hid (x ++ { data := #[34] } = textOf Q) := by
        refine Lib.hid ?_
        rw [hx, show ({ data := #[34] } : ByteArray) = textOf [34] from rfl, text_append, HQ.out, hacc, hkk, List.take_of_length_le (by simp)]
        unfold quoteF
        simp
      have HBW := Lib.hid hBw
      clear hacc hx hkk
      go_wp2_with fail
      go_ret
      exact ⟨by rw [hacc2.out]; rfl, HBW.out⟩
end Go.Proofs.YtonbfcpbgkpbaaaGreatDoor
end
section
/- tesseraref7.made: its contract. -/
namespace Go.Proofs.YtonbfcpbgkpbaaaGreatDoor
open Go.RowKit Go.Sort Go.Joins
set_option linter.unusedVariables false
set_option linter.unusedSimpArgs false
set_option maxRecDepth 100000
/-- Is an id a byte's, or one of the first n merges'? -/
def mkF (ms : List Mg) (n : Nat) (id : Int) : Bool := (decide (0 ≤ id) && decide (id < 256)) || (ms.take n).any fun x => x.i == id
theorem any_no {ms : List Mg} {k : Nat} {id : Int} (h : ∀ j x, j < k → ms[j]? = some x → x.i ≠ id) : ((ms.take k).any fun x => x.i == id) = false := by
  rw [List.any_eq_false]
  intro x hx
  obtain ⟨j, hj⟩ := List.getElem?_of_mem hx
  have hjk : j < k := by
    have := (List.getElem?_eq_some_iff.1 hj).1
    rw [List.length_take] at this
    omega
  rw [List.getElem?_take_of_lt hjk] at hj
  have := h j x hjk hj
  simpa using this
theorem any_yes {ms : List Mg} {n k : Nat} {x : Mg} (hk : k < n) (hx : ms[k]? = some x) : ((ms.take n).any fun y => y.i == x.i) = true := by
  rw [List.any_eq_true]
  refine ⟨x, ?_, by simp⟩
  have : (ms.take n)[k]? = some x := by rw [List.getElem?_take_of_lt hk, hx]
  exact List.mem_of_getElem? this
set_option maxHeartbeats 2000000 in
theorem rmade_any (aw am a b c : Option Addr) (nw nm na nb nc cw cm ca cb cc : Nat) (ws : List ByteArray) (ms : List Mg) (n : Nat) (id : Int) (w : World) (hnw : nw = ws.length) (hnm : nm = ms.length) (hW : WSP w aw ws) (hM : MSP w am ms) (hn : n ≤ ms.length) (hws : ws.length ≤ 1048576) (hms : ms.length ≤ 1048576)
    (hid : ∀ j x, j < n → ms[j]? = some x → 256 ≤ x.i ∧ x.i < 256 + (ws.length : Int)) :
    Calls Tryz.prog 24 #[.agg #[.slice aw nw cw, .slice am nm cm, .slice a na ca, .slice b nb cb, .slice c nc cc], .int .i64 (n : Nat), .int .i64 id] w fun e w' => e = .returned (.tuple #[.string (if mkF ms n id = true then wordF ws id.toNat else ⟨#[]⟩), .bool (mkF ms n id)]) ∧ Below w.heap.size w w' := by
  have hX := DBox.new w (.slice aw nw cw) (.slice am nm cm) (.slice a na ca) (.slice b nb cb) (.slice c nc cc)
  have hb0 := box_below w (.cells #[.slice aw nw cw, .slice am nm cm, .slice a na ca, .slice b nb cb, .slice c nc cc] 26)
  obtain ⟨Y, hY⟩ : ∃ Y, Y = w.alloc (.cells #[.slice aw nw cw, .slice am nm cm, .slice a na ca, .slice b nb cb, .slice c nc cc] 26) := ⟨_, rfl⟩
  rw [← hY] at hb0 hX
  have hWY := hW.below hb0
  have hMY := hM.below hb0
  have HB0 := Lib.hid hb0
  have HY := Lib.hid hY
  obtain ⟨z, hz⟩ : ∃ z, z = w.heap.size := ⟨_, rfl⟩
  have HZ := Lib.hid hz
  rw [← hz] at hX
  have x0 := hX.c0
  have x1 := hX.c1
  have HNW := Lib.hid hnw
  have HNM := Lib.hid hnm
  have HWY := Lib.hid hWY
  have HMY := Lib.hid hMY
  have HID := Lib.hid hid
  have hnn : n ≤ nm := by rw [hnm]; exact hn
  have hnwb : nw ≤ 1048576 := by rw [hnw]; exact hws
  have hnmb : nm ≤ 1048576 := by rw [hnm]; exact hms
  clear hW hM hb0 hX hz hWY hMY hnw hnm hid hn hws hms hY
  by_cases hlow : 0 ≤ id ∧ id < 256
  · have hmk : mkF ms n id = true := by unfold mkF; rw [decide_eq_true hlow.1, decide_eq_true hlow.2]; rfl
    rw [hmk, if_pos rfl]
    obtain ⟨k, rfl⟩ : ∃ k : Nat, id = k := ⟨id.toNat, by omega⟩
    have hk : k < 256 := by omega
    have hw : wordF ws ((k : Nat) : Int).toNat = ⟨#[UInt8.ofNat k]⟩ := by
      rw [Int.toNat_natCast]
      unfold wordF
      rw [if_pos hk]
    rw [hw]
    have d0 : decide ((k : Int) < 256) = true := decide_eq_true (by omega)
    have d1 : decide (k < 256) = true := decide_eq_true hk
    have hcv := byte_text Y k hk
    have hmod : ((k : Nat) : Int) % 256 = (k : Nat) := by omega
    have hbY := box_below Y (.cells #[.int .u8 (k : Nat)] 5)
    have HBY := Lib.hid (HB0.out.trans (hbY.mono HB0.out.size))
    clear hlow hmk hw hbY
    go_enter Tryz.func24, Tryz.ntmps24
    go_upto_region 1 with fail
    rw [← HY.out, ← HZ.out]
    clear HY
    go_wp2_with fail
    go_ret2
    exact ⟨rfl, HBY.out⟩
  · have hdl : (decide (0 ≤ id) && decide (id < 256)) = false := by
      rw [Bool.and_eq_false_iff]
      by_cases h : 0 ≤ id
      · exact .inr (decide_eq_false (by omega))
      · exact .inl (decide_eq_false h)
    have hnext : ∀ t, mkF ms n id = t → (ms.take n).any (fun x => x.i == id) = t := by
      intro t ht
      unfold mkF at ht
      rw [hdl, Bool.false_or] at ht
      exact ht
    obtain ⟨R, hR⟩ : ∃ R : Value, R = .tuple #[.string (if mkF ms n id = true then wordF ws id.toNat else ⟨#[]⟩), .bool (mkF ms n id)] := ⟨_, rfl⟩
    have HR := Lib.hid hR
    rw [← hR]
    have HDL := Lib.hid hdl
    by_cases h0 : 0 ≤ id
    · have d0 : decide (0 ≤ id) = true := decide_eq_true h0
      have d1 : decide (id < 256) = false := decide_eq_false (by omega)
      clear hR hdl hnext hlow h0
      go_enter Tryz.func24, Tryz.ntmps24
      go_upto_region 1 with fail
      rw [← HY.out, ← HZ.out]
      clear HY
      go_wp2_with fail
      go_loopw [8] (fun v wr => ∃ k : Nat, k ≤ n ∧ v = .int .i64 (k : Nat) ∧ wr = Y ∧ ∀ j x, j < k → ms[j]? = some x → x.i ≠ id) (fun v _ => n - (intOf v).toNat)
      case atStart => exact ⟨0, Nat.zero_le _, rfl, rfl, fun j x hj => by omega⟩
      case round =>
        obtain ⟨k, hk, rfl, hw, hno⟩ := hrel
        rw [hw]
        clear hw wr
        have HNO := Lib.hid hno
        clear hno
        by_cases hkn : k < n
        · have g0 : decide ((k : Int) < (n : Int)) = true := decide_eq_true (by omega)
          have g1 : decide (k < n) = true := decide_eq_true hkn
          have hkm : k < ms.length := by rw [← HNM.out]; omega
          obtain ⟨bm, off, rfl, hmg⟩ := HMY.out.cellsAt hkm
          obtain ⟨x, hx⟩ : ∃ x, ms[k]? = some x := ⟨_, List.getElem?_eq_getElem hkm⟩
          have hxe : ms[k] = x := by rw [List.getElem?_eq_getElem hkm] at hx; exact Option.some.inj hx
          rw [hxe] at hmg
          obtain ⟨m0, m1, m2⟩ := hmg
          have ik : 0 ≤ (k : Int) ∧ (k : Int) < (nm : Int) := by omega
          have HX := Lib.hid hx
          have hidx := HID.out k x hkn hx
          obtain ⟨xi, hxi⟩ : ∃ xi, xi = x.i := ⟨_, rfl⟩
          rw [← hxi] at m2 hidx
          have HXI := Lib.hid hxi
          clear hx hxe hxi m0 m1 hkm
          by_cases he : xi = id
          · have q0 : (xi == id) = true := by simpa using he
            obtain ⟨q, hq⟩ : ∃ q : Nat, id = ((q + 256 : Nat) : Int) := ⟨(id - 256).toNat, by omega⟩
            have hqw : q < ws.length := by omega
            obtain ⟨bw, ow, rfl, cc⟩ := HWY.out.cellAt hqw
            have hsub : ((q + 256 : Nat) : Int) - 256 = (q : Nat) := by omega
            have iq : 0 ≤ ((q : Nat) : Int) ∧ ((q : Nat) : Int) < (nw : Int) := by
              have := HNW.out
              omega
            have hfin : R = .tuple #[.string (ws.getD q ⟨#[]⟩), .bool true] := by
              have hmk : mkF ms n id = true := by
                unfold mkF
                have := any_yes hkn HX.out
                rw [← HXI.out, he] at this
                rw [this, Bool.or_true]
              rw [HR.out, hmk, if_pos rfl]
              unfold wordF
              rw [hq, Int.toNat_natCast, if_neg (by omega), Nat.add_sub_cancel]
            have HF := Lib.hid hfin
            subst hq
            obtain ⟨wd, hwd⟩ : ∃ wd, wd = ws.getD q ⟨#[]⟩ := ⟨_, rfl⟩
            rw [← hwd] at cc HF
            clear he hfin hwd hqw hidx
            go_wp2_with fail
            go_ret2
            exact ⟨by rw [HF.out]; rfl, HB0.out⟩
          · have q0 : (xi == id) = false := by simpa using he
            have HN2 := Lib.hid (show ∀ j x, j < k + 1 → ms[j]? = some x → x.i ≠ id from fun j y hj hy => by
              by_cases e : j = k
              · subst e
                rw [HX.out] at hy
                cases hy
                rw [← HXI.out]
                exact he
              · exact HNO.out j y (by omega) hy)
            clear he hidx
            go_wp2_with fail
            go_roundw
            case rel => exact ⟨k + 1, by omega, by go_num, trivial, HN2.out⟩
            case measure => simp [intOf]; omega
        · have g0 : decide ((k : Int) < (n : Int)) = false := decide_eq_false (by omega)
          have g1 : decide (k < n) = false := decide_eq_false hkn
          have hfin : R = .tuple #[.string ⟨#[]⟩, .bool false] := by
            have hke : k = n := by omega
            have hmk : mkF ms n id = false := by
              unfold mkF
              rw [HDL.out, Bool.false_or, ← hke]
              exact any_no HNO.out
            rw [HR.out, hmk]
            rfl
          have HF := Lib.hid hfin
          clear hfin hkn
          go_wp2_with fail
          go_ret2
          exact ⟨by rw [HF.out]; rfl, HB0.out⟩
    · have d0 : decide (0 ≤ id) = false := decide_eq_false h0
      clear hR hdl hnext hlow h0
      go_enter Tryz.func24, Tryz.ntmps24
      go_upto_region 1 with fail
      rw [← HY.out, ← HZ.out]
      clear HY
      go_wp2_with fail
      go_loopw [8] (fun v wr => ∃ k : Nat, k ≤ n ∧ v = .int .i64 (k : Nat) ∧ wr = Y ∧ ∀ j x, j < k → ms[j]? = some x → x.i ≠ id) (fun v _ => n - (intOf v).toNat)
      case atStart => exact ⟨0, Nat.zero_le _, rfl, rfl, fun j x hj => by omega⟩
      case round =>
        obtain ⟨k, hk, rfl, hw, hno⟩ := hrel
        rw [hw]
        clear hw wr
        have HNO := Lib.hid hno
        clear hno
        by_cases hkn : k < n
        · have g0 : decide ((k : Int) < (n : Int)) = true := decide_eq_true (by omega)
          have g1 : decide (k < n) = true := decide_eq_true hkn
          have hkm : k < ms.length := by rw [← HNM.out]; omega
          obtain ⟨bm, off, rfl, hmg⟩ := HMY.out.cellsAt hkm
          obtain ⟨x, hx⟩ : ∃ x, ms[k]? = some x := ⟨_, List.getElem?_eq_getElem hkm⟩
          have hxe : ms[k] = x := by rw [List.getElem?_eq_getElem hkm] at hx; exact Option.some.inj hx
          rw [hxe] at hmg
          obtain ⟨m0, m1, m2⟩ := hmg
          have ik : 0 ≤ (k : Int) ∧ (k : Int) < (nm : Int) := by omega
          have HX := Lib.hid hx
          have hidx := HID.out k x hkn hx
          obtain ⟨xi, hxi⟩ : ∃ xi, xi = x.i := ⟨_, rfl⟩
          rw [← hxi] at m2 hidx
          have HXI := Lib.hid hxi
          clear hx hxe hxi m0 m1 hkm
          by_cases he : xi = id
          · exfalso
            have := of_decide_eq_false d0
            omega
          · have q0 : (xi == id) = false := by simpa using he
            have HN2 := Lib.hid (show ∀ j x, j < k + 1 → ms[j]? = some x → x.i ≠ id from fun j y hj hy => by
              by_cases e : j = k
              · subst e
                rw [HX.out] at hy
                cases hy
                rw [← HXI.out]
                exact he
              · exact HNO.out j y (by omega) hy)
            clear he hidx
            go_wp2_with fail
            go_roundw
            case rel => exact ⟨k + 1, by omega, by go_num, trivial, HN2.out⟩
            case measure => simp [intOf]; omega
        · have g0 : decide ((k : Int) < (n : Int)) = false := decide_eq_false (by omega)
          have g1 : decide (k < n) = false := decide_eq_false hkn
          have hfin : R = .tuple #[.string ⟨#[]⟩, .bool false] := by
            have hke : k = n := by omega
            have hmk : mkF ms n id = false := by
              unfold mkF
              rw [HDL.out, Bool.false_or, ← hke]
              exact any_no HNO.out
            rw [HR.out, hmk]
            rfl
          have HF := Lib.hid hfin
          clear hfin hkn
          go_wp2_with fail
          go_ret2
          exact ⟨by rw [HF.out]; rfl, HB0.out⟩
end Go.Proofs.YtonbfcpbgkpbaaaGreatDoor
end
