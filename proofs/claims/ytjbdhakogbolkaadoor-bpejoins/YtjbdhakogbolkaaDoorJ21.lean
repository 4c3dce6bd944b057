import Derived.Test.YtjbdhakogbolkaaDoorJ20
import Derived.Test.YtjbdhakogbolkaaDoorJ15
section
/- BpeJoins: its walk where the ids are a hundred or fewer. -/
namespace Go.Proofs.YtjbdhakogbolkaaDoor
open Go.RowKit Go.Joins Go.Sort
set_option linter.unusedVariables false
set_option linter.unusedSimpArgs false
set_option maxRecDepth 100000
set_option maxHeartbeats 4000000 in
theorem joins_few (aw am a b c : Option Addr) (cw cm ca cb cc : Nat) (ws : List ByteArray) (ms : List Mg) (A B C : List Sp) (ia : Option Addr) (ic : Nat) (l : List Int) (w : World) (hwf : MWf ms) (hn : ws.length ≤ 8796093022208 ∧ ms.length ≤ 5864062014805 ∧ A.length ≤ 17592186044416 ∧ B.length ≤ 17592186044416 ∧ C.length ≤ 17592186044416) (hW : WSP w aw ws) (hM : MSP w am ms) (hA : Lst w a ca A) (hB : Lst w b cb B) (hC : Lst w c cc C) (hG : GL w) (hi : CH.INS w ia l) (h64 : ∀ x ∈ l, W64 x) (hl : l.length ≤ 100) :
    Calls Tryd.prog 5 #[.agg #[.slice aw ws.length cw, .slice am ms.length cm, .slice a A.length ca, .slice b B.length cb, .slice c C.length cc], .slice ia l.length ic] w fun e w' => e = .returned (.bool true) ∧ Below w.heap.size w w' := by
  have hD := DBox.new w (.slice aw ws.length cw) (.slice am ms.length cm) (.slice a A.length ca) (.slice b B.length cb) (.slice c C.length cc)
  have hb0 := box_below w (.cells #[.slice aw ws.length cw, .slice am ms.length cm, .slice a A.length ca, .slice b B.length cb, .slice c C.length cc] 30)
  have HW : Hid (WSP w aw ws) := hW
  have HM : Hid (MSP w am ms) := hM
  have HA : Hid (Lst w a ca A) := hA
  have HB : Hid (Lst w b cb B) := hB
  have HC : Hid (Lst w c cc C) := hC
  have HG : Hid (GL w) := hG
  have HI : Hid (CH.INS w ia l) := hi
  have H64 : Hid (∀ x ∈ l, W64 x) := h64
  have HMI : Hid (∀ l r k i, mergeM ms l r = some (k, i) → W64 i) := mergeM_W64 hwf
  clear hW hM hA hB hC hG hi h64
  have x0 := hD.c0
  have x1 := hD.c1
  have x2 := hD.c2
  have x3 := hD.c3
  have x4 := hD.c4
  obtain ⟨n, hnn⟩ : ∃ n, n = l.length := ⟨_, rfl⟩
  have HN : Hid (n = l.length) := hnn
  rw [← hnn] at hl ⊢
  clear hnn
  go_enter Tryd.func5, Tryd.ntmps5
  go_wp2_with fail
  obtain ⟨Y, hY⟩ : ∃ Y, Y = w.alloc (.cells #[.slice aw ws.length cw, .slice am ms.length cm, .slice a A.length ca, .slice b B.length cb, .slice c C.length cc] 30) := ⟨_, rfl⟩
  obtain ⟨z, hz⟩ : ∃ z, z = w.heap.size := ⟨_, rfl⟩
  have HZ : Hid (z = w.heap.size) := hz
  have sY : Y.heap.size = w.heap.size + 1 := by rw [hY]; simp
  rw [← hY] at hb0 x0 x1 x2 x3 x4 ⊢
  clear hY hD hz HZ
  clear z
  refine (keepOf_any aw am a b c cw cm ca cb cc ws ms A B C Y hwf (by omega) (HW.out.below hb0) (HM.out.below hb0) (HA.out.below hb0) (HB.out.below hb0) (HC.out.below hb0) (HG.out.below hb0)).mono ?_
  rintro e w1 ⟨p, rfl, hp1, hp2, hb1⟩
  have B1 := hb0.trans (hb1.mono hb0.size)
  have hG1 := HG.out.below B1
  cases hU : upB ws ms A B C with
  | false =>
    obtain rfl := hp2 hU
    clear hp1 hp2 hU hb1 hb0 HMI
    go_wp2_with fail
    refine (known10_any w1 hG1).mono ?_
    rintro e w9 ⟨rfl, hb9⟩
    go_wp2_with fail
    go_ret
    exact ⟨rfl, B1.trans (hb9.mono B1.size)⟩
  | true =>
    obtain ⟨g, rfl, hMd⟩ := hp1 hU
    have HK : Hid (MOk ws ms A B C) := upB_ok hU
    have hI1 : CH.INS w1 ia l := INS.below' HI.out B1
    have HR := roomyN_any ia ic l (-7) w1 (by rw [← HN.out]; omega) hI1
    rw [← HN.out] at HR
    have d1 : decide ((n : Int) ≤ 1048576) = true := decide_eq_true (by omega)
    have d2 : decide (100 < (n : Int)) = false := decide_eq_false (by omega)
    have d2' : decide (100 < n) = false := decide_eq_false (by omega)
    have d1' : decide (n ≤ 1048576) = true := decide_eq_true (by omega)
    have BY1 := hb1
    clear hp1 hp2 hU hb1
    go_wp2_with fail
    refine HR.mono ?_
    rintro e w2 ⟨rfl, hb2, hO2, hlt2⟩
    clear HR
    obtain ⟨gb, hgb⟩ : ∃ gb, gb = w1.heap.size := ⟨_, rfl⟩
    rw [← hgb] at hO2 hlt2 ⊢
    have hI2 : CH.INS w2 (some ⟨gb, 0, none⟩) l := hO2.ins
    have hM2 := hMd.below hb2
    have HJn := bjoin_any g _ (some ⟨gb, 0, none⟩) (n + 80) l ws ms A B C w2 (by rw [← HN.out]; omega) (by omega) hI2 H64.out HMI.out hM2
    rw [← HN.out] at HJn
    have B2 := B1.trans (hb2.mono B1.size)
    have bn : 0 ≤ (n : Int) ∧ (n : Int) ≤ ((n + 80 : Nat) : Int) := by omega
    clear hgb
    go_wp2_with fail
    refine HJn.mono ?_
    rintro e w3 ⟨hF, hT, hb3⟩
    have B3 := B2.trans (hb3.mono B2.size)
    have BY2 := BY1.trans (hb2.mono BY1.size)
    have BY3 := BY2.trans (hb3.mono BY2.size)
    have HG3 : Hid (GL w3) := (hG1.below hb2).below hb3
    have HIn := intactN_any gb ia ic l (-7) w3 (by rw [← HN.out]; omega) (hO2.below hb3) (INS.below' HI.out B3)
    rw [← HN.out] at HIn
    have d6 : decide (1048576 < (n : Int)) = false := decide_eq_false (by omega)
    have d6' : decide (1048576 < n) = false := decide_eq_false (by omega)
    clear HJn hM2 hI2 hO2 hMd hI1 hb0 hb2 hlt2 hG1 BY1 BY2
    cases hKn : allK ws l with
    | false =>
      obtain rfl := hF hKn
      clear hF hT hb3
      have HKF : Hid (allK ws l = false) := hKn
      clear hKn
      go_wp2_with fail
      refine HIn.mono ?_
      rintro e w4 ⟨rfl, hb4⟩
      clear HIn
      have B4 := B3.trans (hb4.mono B3.size)
      have BY4 := BY3.trans (hb4.mono BY3.size)
      have hG4 := HG3.out.below hb4
      go_wp2_with fail
      go_loopw [11] (fun v11 wr => ∃ k : Nat, k ≤ n ∧ v11 = .int .i64 (k : Nat) ∧ (∀ j x, j < k → l[j]? = some x → (wordM ws x).isSome = true) ∧ Below w4.heap.size w4 wr) (fun v11 _ => n - (intOf v11).toNat)
      case atStart => exact ⟨0, Nat.zero_le _, rfl, fun j x hj => absurd hj (Nat.not_lt_zero j), Below.refl _ _⟩
      case round =>
        obtain ⟨k, hk, rfl, hall, hBr⟩ := hrel
        have HALL : Hid (∀ j x, j < k → l[j]? = some x → (wordM ws x).isSome = true) := hall
        clear hall
        have Br := B4.trans (hBr.mono B4.size)
        have BYr := BY4.trans (hBr.mono BY4.size)
        have hszr := hBr.size
        by_cases hlt : k < n
        · obtain ⟨x, hx⟩ : ∃ x, l[k]? = some x := ⟨_, List.getElem?_eq_getElem (by rw [← HN.out]; exact hlt)⟩
          have HX : Hid (l[k]? = some x) := hx
          obtain ⟨ib, io, rfl, c5⟩ := INS.at' (INS.below' HI.out Br) hx
          have HWd := fun d os => refWord_any aw am a b c cw ms.length cm A.length ca B.length cb C.length cc ws x (H64.out x (List.mem_of_getElem? hx)) (grow (redrawn wr d) os) (by omega) ((HW.out.below Br).below (below_regrown wr d os))
          unfold wdV at HWd
          obtain ⟨S1, hS1⟩ : ∃ S, S = (wordM ws x).getD ⟨#[]⟩ := ⟨_, rfl⟩
          rw [← hS1] at HWd
          have d : decide ((k : Int) < (n : Int)) = true := decide_eq_true (by omega)
          have bk : 0 ≤ (k : Int) ∧ (k : Int) < (n : Int) := by omega
          have k5 := cell_regrown c5
          have e0 := cell_regrown ((BYr.cell (p := ⟨w.heap.size, 0, none⟩) (by show w.heap.size < Y.heap.size; omega)).trans x0)
          have e1 := cell_regrown ((BYr.cell (p := ⟨w.heap.size, 1, none⟩) (by show w.heap.size < Y.heap.size; omega)).trans x1)
          have e2 := cell_regrown ((BYr.cell (p := ⟨w.heap.size, 2, none⟩) (by show w.heap.size < Y.heap.size; omega)).trans x2)
          have e3 := cell_regrown ((BYr.cell (p := ⟨w.heap.size, 3, none⟩) (by show w.heap.size < Y.heap.size; omega)).trans x3)
          have e4 := cell_regrown ((BYr.cell (p := ⟨w.heap.size, 4, none⟩) (by show w.heap.size < Y.heap.size; omega)).trans x4)
          clear hS1 hx c5
          cases hs : (wordM ws x).isSome with
          | true =>
            rw [hs] at HWd
            have HS : Hid ((wordM ws x).isSome = true) := hs
            clear hs
            go_upto_region 15 with fail
            refine wp_region_quiet_below (by kernel_rfl) (by kernel_rfl) ?_
            repeat (go_big_quiet_step ((go_at_call 22; exact Calls.regrown_of (HWd _ _))))
            refine wpQuiet_nil ?_
            intro W6 hw'
            have hb6 : Below wr.heap.size wr W6 := by
              obtain ⟨⟨dq, osq⟩, rfl⟩ := hw'
              exact below_regrown _ _ _
            clear hw' HWd k5 e0 e1 e2 e3 e4
            go_wp2_with fail
            exact ⟨⟨k + 1, by omega, by simp, fun j y hj hy => if h : j < k then HALL.out j y h hy else by
              obtain rfl : j = k := by omega
              rw [HX.out] at hy
              cases hy
              exact HS.out, hBr.trans (hb6.mono hszr)⟩, by simp only [intOf]; omega⟩
          | false =>
            rw [hs] at HWd
            clear hs
            go_upto_region 15 with fail
            refine wp_region_quiet_below (by kernel_rfl) (by kernel_rfl) ?_
            repeat (go_big_quiet_step ((go_at_call 22; exact Calls.regrown_of (HWd _ _))))
            refine wpQuiet_nil ?_
            intro W6 hw'
            have hb6 : Below wr.heap.size wr W6 := by
              obtain ⟨⟨dq, osq⟩, rfl⟩ := hw'
              exact below_regrown _ _ _
            clear hw' HWd k5 e0 e1 e2 e3 e4
            go_wp2_with fail
            refine (known10_any W6 ((hG4.below hBr).below hb6)).mono ?_
            rintro e w9 ⟨rfl, hb9⟩
            go_wp2_with fail
            go_ret
            exact ⟨rfl, (Br.trans (hb6.mono Br.size)).trans (hb9.mono (Br.trans (hb6.mono Br.size)).size)⟩
        · exfalso
          have := HKF.out
          have h2 : allK ws l = true := List.all_eq_true.2 (fun x hx => by
            obtain ⟨j, hj, he⟩ := List.getElem_of_mem hx
            exact HALL.out j x (by have := HN.out; omega) (by rw [List.getElem?_eq_getElem hj, he]))
          rw [h2] at this
          cases this
    | true =>
      obtain ⟨v, r, st, rfl, hv, hj⟩ := hT hKn
      have HKT : Hid (allK ws l = true) := hKn
      have HJ : Hid (JR ms l st r) := hj
      obtain ⟨a1, c1, rfl, hi1⟩ := hv.ins
      have HI1 : Hid (CH.INS w3 a1 r) := hi1
      clear hF hT hKn hj hv hi1 hb3
      go_wp2_with fail
      refine HIn.mono ?_
      rintro e w4 ⟨rfl, hb4⟩
      clear HIn
      have B4 := B3.trans (hb4.mono B3.size)
      have BY4 := BY3.trans (hb4.mono BY3.size)
      have hG4 := HG3.out.below hb4
      go_wp2_with fail
      go_loopw [11] (fun v11 wr => ∃ k : Nat, k ≤ n ∧ v11 = .int .i64 (k : Nat) ∧ (∀ j x, j < k → l[j]? = some x → (wordM ws x).isSome = true) ∧ Below w4.heap.size w4 wr) (fun v11 _ => n - (intOf v11).toNat)
      case atStart => exact ⟨0, Nat.zero_le _, rfl, fun j x hj => absurd hj (Nat.not_lt_zero j), Below.refl _ _⟩
      case round =>
        obtain ⟨k, hk, rfl, hall, hBr⟩ := hrel
        have HALL : Hid (∀ j x, j < k → l[j]? = some x → (wordM ws x).isSome = true) := hall
        clear hall
        have Br := B4.trans (hBr.mono B4.size)
        have BYr := BY4.trans (hBr.mono BY4.size)
        have hszr := hBr.size
        by_cases hlt : k < n
        · obtain ⟨x, hx⟩ : ∃ x, l[k]? = some x := ⟨_, List.getElem?_eq_getElem (by rw [← HN.out]; exact hlt)⟩
          have HX : Hid (l[k]? = some x) := hx
          obtain ⟨ib, io, rfl, c5⟩ := INS.at' (INS.below' HI.out Br) hx
          have HWd := fun d os => refWord_any aw am a b c cw ms.length cm A.length ca B.length cb C.length cc ws x (H64.out x (List.mem_of_getElem? hx)) (grow (redrawn wr d) os) (by omega) ((HW.out.below Br).below (below_regrown wr d os))
          unfold wdV at HWd
          obtain ⟨S1, hS1⟩ : ∃ S, S = (wordM ws x).getD ⟨#[]⟩ := ⟨_, rfl⟩
          rw [← hS1] at HWd
          have d : decide ((k : Int) < (n : Int)) = true := decide_eq_true (by omega)
          have bk : 0 ≤ (k : Int) ∧ (k : Int) < (n : Int) := by omega
          have k5 := cell_regrown c5
          have e0 := cell_regrown ((BYr.cell (p := ⟨w.heap.size, 0, none⟩) (by show w.heap.size < Y.heap.size; omega)).trans x0)
          have e1 := cell_regrown ((BYr.cell (p := ⟨w.heap.size, 1, none⟩) (by show w.heap.size < Y.heap.size; omega)).trans x1)
          have e2 := cell_regrown ((BYr.cell (p := ⟨w.heap.size, 2, none⟩) (by show w.heap.size < Y.heap.size; omega)).trans x2)
          have e3 := cell_regrown ((BYr.cell (p := ⟨w.heap.size, 3, none⟩) (by show w.heap.size < Y.heap.size; omega)).trans x3)
          have e4 := cell_regrown ((BYr.cell (p := ⟨w.heap.size, 4, none⟩) (by show w.heap.size < Y.heap.size; omega)).trans x4)
          clear hS1 hx c5
          cases hs : (wordM ws x).isSome with
          | true =>
            rw [hs] at HWd
            have HS : Hid ((wordM ws x).isSome = true) := hs
            clear hs
            go_upto_region 15 with fail
            refine wp_region_quiet_below (by kernel_rfl) (by kernel_rfl) ?_
            repeat (go_big_quiet_step ((go_at_call 22; exact Calls.regrown_of (HWd _ _))))
            refine wpQuiet_nil ?_
            intro W6 hw'
            have hb6 : Below wr.heap.size wr W6 := by
              obtain ⟨⟨dq, osq⟩, rfl⟩ := hw'
              exact below_regrown _ _ _
            clear hw' HWd k5 e0 e1 e2 e3 e4
            go_wp2_with fail
            exact ⟨⟨k + 1, by omega, by simp, fun j y hj hy => if h : j < k then HALL.out j y h hy else by
              obtain rfl : j = k := by omega
              rw [HX.out] at hy
              cases hy
              exact HS.out, hBr.trans (hb6.mono hszr)⟩, by simp only [intOf]; omega⟩
          | false =>
            exfalso
            have h2 := List.all_eq_true.1 HKT.out x (List.mem_of_getElem? HX.out)
            rw [hs] at h2
            cases h2
        · have hke : k = n := by omega
          subst hke
          have d : decide ((k : Int) < (k : Int)) = false := decide_eq_false (by omega)
          have HRJ := refJoined_any aw am a b c ws.length cw cm A.length ca B.length cb C.length cc ms ia ic l wr (by omega) (by rw [← HN.out]; omega) (HM.out.below Br) (INS.below' HI.out Br)
          rw [← HN.out] at HRJ
          have f0 := ((BYr.cell (p := ⟨w.heap.size, 0, none⟩) (by show w.heap.size < Y.heap.size; omega)).trans x0)
          have f1 := ((BYr.cell (p := ⟨w.heap.size, 1, none⟩) (by show w.heap.size < Y.heap.size; omega)).trans x1)
          have f2 := ((BYr.cell (p := ⟨w.heap.size, 2, none⟩) (by show w.heap.size < Y.heap.size; omega)).trans x2)
          have f3 := ((BYr.cell (p := ⟨w.heap.size, 3, none⟩) (by show w.heap.size < Y.heap.size; omega)).trans x3)
          have f4 := ((BYr.cell (p := ⟨w.heap.size, 4, none⟩) (by show w.heap.size < Y.heap.size; omega)).trans x4)
          go_wp2_with fail
          refine HRJ.mono ?_
          rintro e w5 ⟨v2, sv, st2, r2, rfl, hN2, -, hJ2, hb5⟩
          clear HRJ f0 f1 f2 f3 f4
          obtain ⟨-, rfl⟩ := JR.uniq HJ.out hJ2
          obtain ⟨a2, c2, rfl, hi2⟩ := hN2.ins
          have hw35 := (hb4.trans (hBr.mono hb4.size)).trans (hb5.mono (hb4.trans (hBr.mono hb4.size)).size)
          have hrl := hJ2.len
          have HSm := sameN_any a1 a2 c1 c2 r w5 (by have := HN.out; omega) (INS.below' HI1.out hw35) hi2
          have B5 := Br.trans (hb5.mono Br.size)
          have hG5 := (hG4.below hBr).below hb5
          clear hN2 hJ2 hi2 hrl hw35
          go_wp2_with fail
          refine HSm.mono ?_
          rintro e w6 ⟨rfl, hb6⟩
          clear HSm
          go_wp2_with fail
          refine (known10_any w6 (hG5.below hb6)).mono ?_
          rintro e w9 ⟨rfl, hb9⟩
          go_wp2_with fail
          go_ret
          exact ⟨rfl, (B5.trans (hb6.mono B5.size)).trans (hb9.mono (B5.trans (hb6.mono B5.size)).size)⟩
end Go.Proofs.YtjbdhakogbolkaaDoor
end
section
/- BpeJoins: its walk where the ids are more than a hundred. -/
namespace Go.Proofs.YtjbdhakogbolkaaDoor
open Go.RowKit Go.Joins Go.Sort
set_option linter.unusedVariables false
set_option linter.unusedSimpArgs false
set_option maxRecDepth 100000
set_option maxHeartbeats 4000000 in
theorem joins_cut (aw am a b c : Option Addr) (cw cm ca cb cc : Nat) (ws : List ByteArray) (ms : List Mg) (A B C : List Sp) (ia : Option Addr) (ic : Nat) (l : List Int) (w : World) (hwf : MWf ms) (hn : ws.length ≤ 8796093022208 ∧ ms.length ≤ 5864062014805 ∧ A.length ≤ 17592186044416 ∧ B.length ≤ 17592186044416 ∧ C.length ≤ 17592186044416) (hW : WSP w aw ws) (hM : MSP w am ms) (hA : Lst w a ca A) (hB : Lst w b cb B) (hC : Lst w c cc C) (hG : GL w) (N : Nat) (hi : CH.INS w ia l) (h64 : ∀ x ∈ l, W64 x) (hl : l.length = 100) (hN1 : 100 < N) (hN2 : N ≤ 1048576) (hN3 : N ≤ ic) :
    Calls Tryd.prog 5 #[.agg #[.slice aw ws.length cw, .slice am ms.length cm, .slice a A.length ca, .slice b B.length cb, .slice c C.length cc], .slice ia N ic] w fun e w' => e = .returned (.bool true) ∧ Below w.heap.size w w' := by
  have hD := DBox.new w (.slice aw ws.length cw) (.slice am ms.length cm) (.slice a A.length ca) (.slice b B.length cb) (.slice c C.length cc)
  have hb0 := box_below w (.cells #[.slice aw ws.length cw, .slice am ms.length cm, .slice a A.length ca, .slice b B.length cb, .slice c C.length cc] 30)
  have HW : Hid (WSP w aw ws) := hW
  have HM : Hid (MSP w am ms) := hM
  have HA : Hid (Lst w a ca A) := hA
  have HB : Hid (Lst w b cb B) := hB
  have HC : Hid (Lst w c cc C) := hC
  have HG : Hid (GL w) := hG
  have HI : Hid (CH.INS w ia l) := hi
  have H64 : Hid (∀ x ∈ l, W64 x) := h64
  have HMI : Hid (∀ l r k i, mergeM ms l r = some (k, i) → W64 i) := mergeM_W64 hwf
  clear hW hM hA hB hC hG hi h64
  have x0 := hD.c0
  have x1 := hD.c1
  have x2 := hD.c2
  have x3 := hD.c3
  have x4 := hD.c4
  obtain ⟨n, hnn⟩ : ∃ n, n = l.length := ⟨_, rfl⟩
  have HN : Hid (n = l.length) := hnn
  rw [← hnn] at hl
  have e100 : (Value.slice ia 100 ic) = .slice ia n ic := by rw [hl]
  have HE : Hid ((Value.slice ia 100 ic) = .slice ia n ic) := e100
  have hl1 : n ≤ 100 := by omega
  clear hnn e100
  clear hl
  have hl := hl1
  clear hl1
  go_enter Tryd.func5, Tryd.ntmps5
  go_wp2_with fail
  obtain ⟨Y, hY⟩ : ∃ Y, Y = w.alloc (.cells #[.slice aw ws.length cw, .slice am ms.length cm, .slice a A.length ca, .slice b B.length cb, .slice c C.length cc] 30) := ⟨_, rfl⟩
  obtain ⟨z, hz⟩ : ∃ z, z = w.heap.size := ⟨_, rfl⟩
  have HZ : Hid (z = w.heap.size) := hz
  have sY : Y.heap.size = w.heap.size + 1 := by rw [hY]; simp
  rw [← hY] at hb0 x0 x1 x2 x3 x4 ⊢
  clear hY hD hz HZ
  clear z
  refine (keepOf_any aw am a b c cw cm ca cb cc ws ms A B C Y hwf (by omega) (HW.out.below hb0) (HM.out.below hb0) (HA.out.below hb0) (HB.out.below hb0) (HC.out.below hb0) (HG.out.below hb0)).mono ?_
  rintro e w1 ⟨p, rfl, hp1, hp2, hb1⟩
  have B1 := hb0.trans (hb1.mono hb0.size)
  have hG1 := HG.out.below B1
  cases hU : upB ws ms A B C with
  | false =>
    obtain rfl := hp2 hU
    clear hp1 hp2 hU hb1 hb0 HMI
    go_wp2_with fail
    refine (known10_any w1 hG1).mono ?_
    rintro e w9 ⟨rfl, hb9⟩
    go_wp2_with fail
    go_ret
    exact ⟨rfl, B1.trans (hb9.mono B1.size)⟩
  | true =>
    obtain ⟨g, rfl, hMd⟩ := hp1 hU
    have HK : Hid (MOk ws ms A B C) := upB_ok hU
    have hI1 : CH.INS w1 ia l := INS.below' HI.out B1
    have HR := roomyN_any ia ic l (-7) w1 (by rw [← HN.out]; omega) hI1
    rw [← HN.out] at HR
    have d1 : decide ((N : Int) ≤ 1048576) = true := decide_eq_true (by omega)
    have d2 : decide (100 < (N : Int)) = true := decide_eq_true (by omega)
    have d2' : decide (100 < N) = true := decide_eq_true (by omega)
    have d1' : decide (N ≤ 1048576) = true := decide_eq_true (by omega)
    have d3 : (100 : Int) ≤ (ic : Int) := by omega
    have d4 : 100 ≤ ic := by omega
    have BY1 := hb1
    clear hp1 hp2 hU hb1
    go_upto_region 6 with fail
    rw [HE.out]
    go_wp2_with fail
    refine HR.mono ?_
    rintro e w2 ⟨rfl, hb2, hO2, hlt2⟩
    clear HR
    obtain ⟨gb, hgb⟩ : ∃ gb, gb = w1.heap.size := ⟨_, rfl⟩
    rw [← hgb] at hO2 hlt2 ⊢
    have hI2 : CH.INS w2 (some ⟨gb, 0, none⟩) l := hO2.ins
    have hM2 := hMd.below hb2
    have HJn := bjoin_any g _ (some ⟨gb, 0, none⟩) (n + 80) l ws ms A B C w2 (by rw [← HN.out]; omega) (by omega) hI2 H64.out HMI.out hM2
    rw [← HN.out] at HJn
    have B2 := B1.trans (hb2.mono B1.size)
    have bn : 0 ≤ (n : Int) ∧ (n : Int) ≤ ((n + 80 : Nat) : Int) := by omega
    clear hgb
    go_wp2_with fail
    refine HJn.mono ?_
    rintro e w3 ⟨hF, hT, hb3⟩
    have B3 := B2.trans (hb3.mono B2.size)
    have BY2 := BY1.trans (hb2.mono BY1.size)
    have BY3 := BY2.trans (hb3.mono BY2.size)
    have HG3 : Hid (GL w3) := (hG1.below hb2).below hb3
    have HIn := intactN_any gb ia ic l (-7) w3 (by rw [← HN.out]; omega) (hO2.below hb3) (INS.below' HI.out B3)
    rw [← HN.out] at HIn
    have d6 : decide (1048576 < (n : Int)) = false := decide_eq_false (by omega)
    have d6' : decide (1048576 < n) = false := decide_eq_false (by omega)
    clear HJn hM2 hI2 hO2 hMd hI1 hb0 hb2 hlt2 hG1 BY1 BY2
    cases hKn : allK ws l with
    | false =>
      obtain rfl := hF hKn
      clear hF hT hb3
      have HKF : Hid (allK ws l = false) := hKn
      clear hKn
      go_wp2_with fail
      refine HIn.mono ?_
      rintro e w4 ⟨rfl, hb4⟩
      clear HIn
      have B4 := B3.trans (hb4.mono B3.size)
      have BY4 := BY3.trans (hb4.mono BY3.size)
      have hG4 := HG3.out.below hb4
      go_wp2_with fail
      go_loopw [11] (fun v11 wr => ∃ k : Nat, k ≤ n ∧ v11 = .int .i64 (k : Nat) ∧ (∀ j x, j < k → l[j]? = some x → (wordM ws x).isSome = true) ∧ Below w4.heap.size w4 wr) (fun v11 _ => n - (intOf v11).toNat)
      case atStart => exact ⟨0, Nat.zero_le _, rfl, fun j x hj => absurd hj (Nat.not_lt_zero j), Below.refl _ _⟩
      case round =>
        obtain ⟨k, hk, rfl, hall, hBr⟩ := hrel
        have HALL : Hid (∀ j x, j < k → l[j]? = some x → (wordM ws x).isSome = true) := hall
        clear hall
        have Br := B4.trans (hBr.mono B4.size)
        have BYr := BY4.trans (hBr.mono BY4.size)
        have hszr := hBr.size
        by_cases hlt : k < n
        · obtain ⟨x, hx⟩ : ∃ x, l[k]? = some x := ⟨_, List.getElem?_eq_getElem (by rw [← HN.out]; exact hlt)⟩
          have HX : Hid (l[k]? = some x) := hx
          obtain ⟨ib, io, rfl, c5⟩ := INS.at' (INS.below' HI.out Br) hx
          have HWd := fun d os => refWord_any aw am a b c cw ms.length cm A.length ca B.length cb C.length cc ws x (H64.out x (List.mem_of_getElem? hx)) (grow (redrawn wr d) os) (by omega) ((HW.out.below Br).below (below_regrown wr d os))
          unfold wdV at HWd
          obtain ⟨S1, hS1⟩ : ∃ S, S = (wordM ws x).getD ⟨#[]⟩ := ⟨_, rfl⟩
          rw [← hS1] at HWd
          have d : decide ((k : Int) < (n : Int)) = true := decide_eq_true (by omega)
          have bk : 0 ≤ (k : Int) ∧ (k : Int) < (n : Int) := by omega
          have k5 := cell_regrown c5
          have e0 := cell_regrown ((BYr.cell (p := ⟨w.heap.size, 0, none⟩) (by show w.heap.size < Y.heap.size; omega)).trans x0)
          have e1 := cell_regrown ((BYr.cell (p := ⟨w.heap.size, 1, none⟩) (by show w.heap.size < Y.heap.size; omega)).trans x1)
          have e2 := cell_regrown ((BYr.cell (p := ⟨w.heap.size, 2, none⟩) (by show w.heap.size < Y.heap.size; omega)).trans x2)
          have e3 := cell_regrown ((BYr.cell (p := ⟨w.heap.size, 3, none⟩) (by show w.heap.size < Y.heap.size; omega)).trans x3)
          have e4 := cell_regrown ((BYr.cell (p := ⟨w.heap.size, 4, none⟩) (by show w.heap.size < Y.heap.size; omega)).trans x4)
          clear hS1 hx c5
          cases hs : (wordM ws x).isSome with
          | true =>
            rw [hs] at HWd
            have HS : Hid ((wordM ws x).isSome = true) := hs
            clear hs
            go_upto_region 15 with fail
            refine wp_region_quiet_below (by kernel_rfl) (by kernel_rfl) ?_
            repeat (go_big_quiet_step ((go_at_call 22; exact Calls.regrown_of (HWd _ _))))
            refine wpQuiet_nil ?_
            intro W6 hw'
            have hb6 : Below wr.heap.size wr W6 := by
              obtain ⟨⟨dq, osq⟩, rfl⟩ := hw'
              exact below_regrown _ _ _
            clear hw' HWd k5 e0 e1 e2 e3 e4
            go_wp2_with fail
            exact ⟨⟨k + 1, by omega, by simp, fun j y hj hy => if h : j < k then HALL.out j y h hy else by
              obtain rfl : j = k := by omega
              rw [HX.out] at hy
              cases hy
              exact HS.out, hBr.trans (hb6.mono hszr)⟩, by simp only [intOf]; omega⟩
          | false =>
            rw [hs] at HWd
            clear hs
            go_upto_region 15 with fail
            refine wp_region_quiet_below (by kernel_rfl) (by kernel_rfl) ?_
            repeat (go_big_quiet_step ((go_at_call 22; exact Calls.regrown_of (HWd _ _))))
            refine wpQuiet_nil ?_
            intro W6 hw'
            have hb6 : Below wr.heap.size wr W6 := by
              obtain ⟨⟨dq, osq⟩, rfl⟩ := hw'
              exact below_regrown _ _ _
            clear hw' HWd k5 e0 e1 e2 e3 e4
            go_wp2_with fail
            refine (known10_any W6 ((hG4.below hBr).below hb6)).mono ?_
            rintro e w9 ⟨rfl, hb9⟩
            go_wp2_with fail
            go_ret
            exact ⟨rfl, (Br.trans (hb6.mono Br.size)).trans (hb9.mono (Br.trans (hb6.mono Br.size)).size)⟩
        · exfalso
          have := HKF.out
          have h2 : allK ws l = true := List.all_eq_true.2 (fun x hx => by
            obtain ⟨j, hj, he⟩ := List.getElem_of_mem hx
            exact HALL.out j x (by have := HN.out; omega) (by rw [List.getElem?_eq_getElem hj, he]))
          rw [h2] at this
          cases this
    | true =>
      obtain ⟨v, r, st, rfl, hv, hj⟩ := hT hKn
      have HKT : Hid (allK ws l = true) := hKn
      have HJ : Hid (JR ms l st r) := hj
      obtain ⟨a1, c1, rfl, hi1⟩ := hv.ins
      have HI1 : Hid (CH.INS w3 a1 r) := hi1
      clear hF hT hKn hj hv hi1 hb3
      go_wp2_with fail
      refine HIn.mono ?_
      rintro e w4 ⟨rfl, hb4⟩
      clear HIn
      have B4 := B3.trans (hb4.mono B3.size)
      have BY4 := BY3.trans (hb4.mono BY3.size)
      have hG4 := HG3.out.below hb4
      go_wp2_with fail
      go_loopw [11] (fun v11 wr => ∃ k : Nat, k ≤ n ∧ v11 = .int .i64 (k : Nat) ∧ (∀ j x, j < k → l[j]? = some x → (wordM ws x).isSome = true) ∧ Below w4.heap.size w4 wr) (fun v11 _ => n - (intOf v11).toNat)
      case atStart => exact ⟨0, Nat.zero_le _, rfl, fun j x hj => absurd hj (Nat.not_lt_zero j), Below.refl _ _⟩
      case round =>
        obtain ⟨k, hk, rfl, hall, hBr⟩ := hrel
        have HALL : Hid (∀ j x, j < k → l[j]? = some x → (wordM ws x).isSome = true) := hall
        clear hall
        have Br := B4.trans (hBr.mono B4.size)
        have BYr := BY4.trans (hBr.mono BY4.size)
        have hszr := hBr.size
        by_cases hlt : k < n
        · obtain ⟨x, hx⟩ : ∃ x, l[k]? = some x := ⟨_, List.getElem?_eq_getElem (by rw [← HN.out]; exact hlt)⟩
          have HX : Hid (l[k]? = some x) := hx
          obtain ⟨ib, io, rfl, c5⟩ := INS.at' (INS.below' HI.out Br) hx
          have HWd := fun d os => refWord_any aw am a b c cw ms.length cm A.length ca B.length cb C.length cc ws x (H64.out x (List.mem_of_getElem? hx)) (grow (redrawn wr d) os) (by omega) ((HW.out.below Br).below (below_regrown wr d os))
          unfold wdV at HWd
          obtain ⟨S1, hS1⟩ : ∃ S, S = (wordM ws x).getD ⟨#[]⟩ := ⟨_, rfl⟩
          rw [← hS1] at HWd
          have d : decide ((k : Int) < (n : Int)) = true := decide_eq_true (by omega)
          have bk : 0 ≤ (k : Int) ∧ (k : Int) < (n : Int) := by omega
          have k5 := cell_regrown c5
          have e0 := cell_regrown ((BYr.cell (p := ⟨w.heap.size, 0, none⟩) (by show w.heap.size < Y.heap.size; omega)).trans x0)
          have e1 := cell_regrown ((BYr.cell (p := ⟨w.heap.size, 1, none⟩) (by show w.heap.size < Y.heap.size; omega)).trans x1)
          have e2 := cell_regrown ((BYr.cell (p := ⟨w.heap.size, 2, none⟩) (by show w.heap.size < Y.heap.size; omega)).trans x2)
          have e3 := cell_regrown ((BYr.cell (p := ⟨w.heap.size, 3, none⟩) (by show w.heap.size < Y.heap.size; omega)).trans x3)
          have e4 := cell_regrown ((BYr.cell (p := ⟨w.heap.size, 4, none⟩) (by show w.heap.size < Y.heap.size; omega)).trans x4)
          clear hS1 hx c5
          cases hs : (wordM ws x).isSome with
          | true =>
            rw [hs] at HWd
            have HS : Hid ((wordM ws x).isSome = true) := hs
            clear hs
            go_upto_region 15 with fail
            refine wp_region_quiet_below (by kernel_rfl) (by kernel_rfl) ?_
            repeat (go_big_quiet_step ((go_at_call 22; exact Calls.regrown_of (HWd _ _))))
            refine wpQuiet_nil ?_
            intro W6 hw'
            have hb6 : Below wr.heap.size wr W6 := by
              obtain ⟨⟨dq, osq⟩, rfl⟩ := hw'
              exact below_regrown _ _ _
            clear hw' HWd k5 e0 e1 e2 e3 e4
            go_wp2_with fail
            exact ⟨⟨k + 1, by omega, by simp, fun j y hj hy => if h : j < k then HALL.out j y h hy else by
              obtain rfl : j = k := by omega
              rw [HX.out] at hy
              cases hy
              exact HS.out, hBr.trans (hb6.mono hszr)⟩, by simp only [intOf]; omega⟩
          | false =>
            exfalso
            have h2 := List.all_eq_true.1 HKT.out x (List.mem_of_getElem? HX.out)
            rw [hs] at h2
            cases h2
        · have hke : k = n := by omega
          subst hke
          have d : decide ((k : Int) < (k : Int)) = false := decide_eq_false (by omega)
          have HRJ := refJoined_any aw am a b c ws.length cw cm A.length ca B.length cb C.length cc ms ia ic l wr (by omega) (by rw [← HN.out]; omega) (HM.out.below Br) (INS.below' HI.out Br)
          rw [← HN.out] at HRJ
          have f0 := ((BYr.cell (p := ⟨w.heap.size, 0, none⟩) (by show w.heap.size < Y.heap.size; omega)).trans x0)
          have f1 := ((BYr.cell (p := ⟨w.heap.size, 1, none⟩) (by show w.heap.size < Y.heap.size; omega)).trans x1)
          have f2 := ((BYr.cell (p := ⟨w.heap.size, 2, none⟩) (by show w.heap.size < Y.heap.size; omega)).trans x2)
          have f3 := ((BYr.cell (p := ⟨w.heap.size, 3, none⟩) (by show w.heap.size < Y.heap.size; omega)).trans x3)
          have f4 := ((BYr.cell (p := ⟨w.heap.size, 4, none⟩) (by show w.heap.size < Y.heap.size; omega)).trans x4)
          go_wp2_with fail
          refine HRJ.mono ?_
          rintro e w5 ⟨v2, sv, st2, r2, rfl, hN2, -, hJ2, hb5⟩
          clear HRJ f0 f1 f2 f3 f4
          obtain ⟨-, rfl⟩ := JR.uniq HJ.out hJ2
          obtain ⟨a2, c2, rfl, hi2⟩ := hN2.ins
          have hw35 := (hb4.trans (hBr.mono hb4.size)).trans (hb5.mono (hb4.trans (hBr.mono hb4.size)).size)
          have hrl := hJ2.len
          have HSm := sameN_any a1 a2 c1 c2 r w5 (by have := HN.out; omega) (INS.below' HI1.out hw35) hi2
          have B5 := Br.trans (hb5.mono Br.size)
          have hG5 := (hG4.below hBr).below hb5
          clear hN2 hJ2 hi2 hrl hw35
          go_wp2_with fail
          refine HSm.mono ?_
          rintro e w6 ⟨rfl, hb6⟩
          clear HSm
          go_wp2_with fail
          refine (known10_any w6 (hG5.below hb6)).mono ?_
          rintro e w9 ⟨rfl, hb9⟩
          go_wp2_with fail
          go_ret
          exact ⟨rfl, (B5.trans (hb6.mono B5.size)).trans (hb9.mono (B5.trans (hb6.mono B5.size)).size)⟩
end Go.Proofs.YtjbdhakogbolkaaDoor
end
section
/- BpeJoins: its walk where the ids are more than a hundred. -/
namespace Go.Proofs.YtjbdhakogbolkaaDoor
open Go.RowKit Go.Joins Go.Sort
set_option linter.unusedVariables false
set_option linter.unusedSimpArgs false
set_option maxRecDepth 100000
set_option maxHeartbeats 4000000 in
theorem joins_long (aw am a b c : Option Addr) (cw cm ca cb cc : Nat) (ws : List ByteArray) (ms : List Mg) (A B C : List Sp) (ia : Option Addr) (ic : Nat) (l : List Int) (w : World) (hwf : MWf ms) (hn : ws.length ≤ 8796093022208 ∧ ms.length ≤ 5864062014805 ∧ A.length ≤ 17592186044416 ∧ B.length ≤ 17592186044416 ∧ C.length ≤ 17592186044416) (hW : WSP w aw ws) (hM : MSP w am ms) (hA : Lst w a ca A) (hB : Lst w b cb B) (hC : Lst w c cc C) (hG : GL w) (hi : CH.INS w ia l) (h64 : ∀ x ∈ l, W64 x) (hl : l.length ≤ 17592186044416) (hL : 1048576 < l.length) :
    Calls Tryd.prog 5 #[.agg #[.slice aw ws.length cw, .slice am ms.length cm, .slice a A.length ca, .slice b B.length cb, .slice c C.length cc], .slice ia l.length ic] w fun e w' => e = .returned (.bool true) ∧ Below w.heap.size w w' := by
  have hD := DBox.new w (.slice aw ws.length cw) (.slice am ms.length cm) (.slice a A.length ca) (.slice b B.length cb) (.slice c C.length cc)
  have hb0 := box_below w (.cells #[.slice aw ws.length cw, .slice am ms.length cm, .slice a A.length ca, .slice b B.length cb, .slice c C.length cc] 30)
  have HW : Hid (WSP w aw ws) := hW
  have HM : Hid (MSP w am ms) := hM
  have HA : Hid (Lst w a ca A) := hA
  have HB : Hid (Lst w b cb B) := hB
  have HC : Hid (Lst w c cc C) := hC
  have HG : Hid (GL w) := hG
  have HI : Hid (CH.INS w ia l) := hi
  have H64 : Hid (∀ x ∈ l, W64 x) := h64
  have HMI : Hid (∀ l r k i, mergeM ms l r = some (k, i) → W64 i) := mergeM_W64 hwf
  clear hW hM hA hB hC hG hi h64
  have x0 := hD.c0
  have x1 := hD.c1
  have x2 := hD.c2
  have x3 := hD.c3
  have x4 := hD.c4
  obtain ⟨n, hnn⟩ : ∃ n, n = l.length := ⟨_, rfl⟩
  have HN : Hid (n = l.length) := hnn
  rw [← hnn] at hl hL ⊢
  clear hnn
  go_enter Tryd.func5, Tryd.ntmps5
  go_wp2_with fail
  obtain ⟨Y, hY⟩ : ∃ Y, Y = w.alloc (.cells #[.slice aw ws.length cw, .slice am ms.length cm, .slice a A.length ca, .slice b B.length cb, .slice c C.length cc] 30) := ⟨_, rfl⟩
  obtain ⟨z, hz⟩ : ∃ z, z = w.heap.size := ⟨_, rfl⟩
  have HZ : Hid (z = w.heap.size) := hz
  have sY : Y.heap.size = w.heap.size + 1 := by rw [hY]; simp
  rw [← hY] at hb0 x0 x1 x2 x3 x4 ⊢
  clear hY hD hz HZ
  clear z
  refine (keepOf_any aw am a b c cw cm ca cb cc ws ms A B C Y hwf (by omega) (HW.out.below hb0) (HM.out.below hb0) (HA.out.below hb0) (HB.out.below hb0) (HC.out.below hb0) (HG.out.below hb0)).mono ?_
  rintro e w1 ⟨p, rfl, hp1, hp2, hb1⟩
  have B1 := hb0.trans (hb1.mono hb0.size)
  have hG1 := HG.out.below B1
  cases hU : upB ws ms A B C with
  | false =>
    obtain rfl := hp2 hU
    clear hp1 hp2 hU hb1 hb0 HMI
    go_wp2_with fail
    refine (known10_any w1 hG1).mono ?_
    rintro e w9 ⟨rfl, hb9⟩
    go_wp2_with fail
    go_ret
    exact ⟨rfl, B1.trans (hb9.mono B1.size)⟩
  | true =>
    obtain ⟨g, rfl, hMd⟩ := hp1 hU
    have HK : Hid (MOk ws ms A B C) := upB_ok hU
    have hI1 : CH.INS w1 ia l := INS.below' HI.out B1
    have HR := roomyN_any ia ic l (-7) w1 (by rw [← HN.out]; omega) hI1
    rw [← HN.out] at HR
    have d1 : decide ((n : Int) ≤ 1048576) = false := decide_eq_false (by omega)
    have d1' : decide (n ≤ 1048576) = false := decide_eq_false (by omega)
    have BY1 := hb1
    clear hp1 hp2 hU hb1
    go_wp2_with fail
    refine HR.mono ?_
    rintro e w2 ⟨rfl, hb2, hO2, hlt2⟩
    clear HR
    obtain ⟨gb, hgb⟩ : ∃ gb, gb = w1.heap.size := ⟨_, rfl⟩
    rw [← hgb] at hO2 hlt2 ⊢
    have hI2 : CH.INS w2 (some ⟨gb, 0, none⟩) l := hO2.ins
    have hM2 := hMd.below hb2
    have hre : refuF (some ⟨g, 0, none⟩) (n : Nat) = 3 := by unfold refuF; rw [if_neg (by simp), if_pos (by omega)]
    have HJn := joined_no (some ⟨g, 0, none⟩) (some ⟨gb, 0, none⟩) n (n + 80) w2 (by rw [hre]; decide)
    rw [hre] at HJn
    clear hre
    have B2 := B1.trans (hb2.mono B1.size)
    have bn : 0 ≤ (n : Int) ∧ (n : Int) ≤ ((n + 80 : Nat) : Int) := by omega
    clear hgb
    go_wp2_with fail
    refine HJn.mono ?_
    rintro e w3 ⟨rfl, he⟩
    obtain rfl := he.symm
    have HG3 : Hid (GL w2) := hG1.below hb2
    have HIn := intactN_any gb ia ic l (-7) w2 (by rw [← HN.out]; omega) hO2 (INS.below' HI.out B2)
    rw [← HN.out] at HIn
    have d6 : decide (1048576 < (n : Int)) = true := decide_eq_true (by omega)
    have d6' : decide (1048576 < n) = true := decide_eq_true (by omega)
    clear HJn hM2 hI2 hO2 hMd hI1 hb0 hb2 hlt2 hG1 BY1
    go_wp2_with fail
    refine HIn.mono ?_
    rintro e w4 ⟨rfl, hb4⟩
    clear HIn
    have B4 := B2.trans (hb4.mono B2.size)
    have hG4 := HG3.out.below hb4
    go_wp2_with fail
    refine (known10_any w4 hG4).mono ?_
    rintro e w9 ⟨rfl, hb9⟩
    go_wp2_with fail
    go_ret
    exact ⟨rfl, B4.trans (hb9.mono B4.size)⟩
/-- The walk, of ids as they come in. -/
theorem joins_walk (aw am a b c : Option Addr) (cw cm ca cb cc : Nat) (ws : List ByteArray) (ms : List Mg) (A B C : List Sp) (ia : Option Addr) (ic : Nat) (l : List Int) (w : World) (hwf : MWf ms) (hn : ws.length ≤ 8796093022208 ∧ ms.length ≤ 5864062014805 ∧ A.length ≤ 17592186044416 ∧ B.length ≤ 17592186044416 ∧ C.length ≤ 17592186044416) (hW : WSP w aw ws) (hM : MSP w am ms) (hA : Lst w a ca A) (hB : Lst w b cb B) (hC : Lst w c cc C) (hG : GL w) (hi : CH.INS w ia l) (hx : l.length ≤ ic ∧ ∀ x ∈ l, W64 x) (hl : l.length ≤ 17592186044416) :
    Calls Tryd.prog 5 #[.agg #[.slice aw ws.length cw, .slice am ms.length cm, .slice a A.length ca, .slice b B.length cb, .slice c C.length cc], .slice ia l.length ic] w fun e w' => e = .returned (.bool true) ∧ Below w.heap.size w w' := by
  by_cases h1 : l.length ≤ 100
  · exact joins_few aw am a b c cw cm ca cb cc ws ms A B C ia ic l w hwf hn hW hM hA hB hC hG hi hx.2 h1
  by_cases h2 : l.length ≤ 1048576
  · refine joins_cut aw am a b c cw cm ca cb cc ws ms A B C ia ic (l.take 100) w hwf hn hW hM hA hB hC hG l.length ?_ (fun x h => hx.2 x (List.mem_of_mem_take h)) (by rw [List.length_take]; omega) (by omega) h2 hx.1
    rcases hi with rfl | ⟨b', off, rfl, hc⟩
    · exact .inl (by simp)
    · refine .inr ⟨b', off, rfl, fun i x h => hc i x ?_⟩
      have hlt := (List.getElem?_eq_some_iff.1 h).1
      rw [List.length_take] at hlt
      rw [← h, List.getElem?_take_of_lt (by omega)]
  · exact joins_long aw am a b c cw cm ca cb cc ws ms A B C ia ic l w hwf hn hW hM hA hB hC hG hi hx.2 hl (by omega)
end Go.Proofs.YtjbdhakogbolkaaDoor
end
section
/- Ids as they come in. -/
namespace Go.Proofs.YtjbdhakogbolkaaDoor
set_option linter.unusedVariables false
section
open Go.ChangeShapes Go.WideShapes Go.ChangeAt Go.RowKit Go.Deep
variable {H : Type} {enc : TypeId × Value → H} {W : World} {x : DataW H × List MemPlace}
theorem open_binums {fuel : Nat} {a : Option Addr} {len cap : Nat} (h : DataW.trod enc Tryd.prog W 0 (fun _ => true) true fuel 34 (Value.slice a len cap).cells.toList = some x) :
    ∃ l : List Int, len = l.length ∧ l.length ≤ 9223372036854775807 ∧ CH.INS W a l ∧ (l.length ≤ cap ∧ ∀ r ∈ l, W64 r) ∧ ∃ e s, x.1 = .slice e s ∧ e.length = l.length ∨ x.1 = .nil ∧ l = [] := by
  rcases open_ints Tryd.underlying34 Tryd.underlying3 (show Tryd.prog.cellsOf 3 = 1 by kernel_rfl) h with ⟨hcs, rfl⟩ | ⟨b, n, c, zs, hcs, _, hl, hm, hz, rfl, hcell, hwz⟩
  · simp [Value.cells] at hcs
    obtain ⟨rfl, rfl, rfl⟩ := hcs
    exact ⟨[], rfl, by simp, .inl rfl, ⟨Nat.zero_le _, fun r hr => by simp at hr⟩, [], [], .inr ⟨rfl, rfl⟩⟩
  · simp [Value.cells] at hcs
    obtain ⟨rfl, rfl, rfl⟩ := hcs
    simp only [if_true] at hz
    unfold maxLen at hm
    refine ⟨zs.take len, by simp; omega, by simp; omega, ?_, ⟨by simp; omega, ?_⟩, _, _, .inl ⟨rfl, by simp [lits]⟩⟩
    · by_cases h0 : len = 0
      · subst h0; exact .inl (by simp)
      · obtain ⟨blk, off, rfl, hc⟩ := Go.ints_at hcell (by omega)
        refine .inr ⟨blk, off, rfl, fun i r hr => ?_⟩
        have hi : i < len := by
          have := (List.getElem?_eq_some_iff.1 hr).1
          simp at this
          omega
        rw [hc i (by omega)]
        rw [List.getElem?_take_of_lt hi] at hr
        simp [List.getD, hr]
    · intro r hr
      have h2 := hwz r (List.mem_of_mem_take hr)
      unfold W64
      simpa [Lit.wf, IntKind.min, IntKind.max, IntKind.signed, IntKind.bits] using h2
end
end Go.Proofs.YtjbdhakogbolkaaDoor
end
