import Derived.Test.YtonbfcpbgkpbaaaGreatDoorJ16
import Derived.Test.YtonbfcpbgkpbaaaGreatDoorJ9
import Derived.Test.YtonbfcpbgkpbaaaGreatDoorJ10
section
/- tesseraref7.Print: its contract. -/
namespace Go.Proofs.YtonbfcpbgkpbaaaGreatDoor
open Go.RowKit Go.Sort Go.Joins
set_option linter.unusedVariables false
set_option linter.unusedSimpArgs false
set_option maxRecDepth 100000
def lstP (A B C : List Sp) (t : Nat) : List Sp := if t = 0 then A else if t = 1 then B else C
theorem runes_lst (A B C : List Sp) : runesOk A B C = true ↔ ∀ t, t < 3 → (lstP A B C t).all spOk = true := by
  unfold runesOk
  simp only [Bool.and_eq_true]
  constructor
  · rintro ⟨⟨h1, h2⟩, h3⟩ t ht
    unfold lstP
    split
    · exact h1
    · split
      · exact h2
      · exact h3
  · intro h
    exact ⟨⟨h 0 (by omega), h 1 (by omega)⟩, h 2 (by omega)⟩
theorem merge_line (ws : List ByteArray) (x : Mg) : jn (mergeT ws x) (mergeT ws x).length ++ [10] = [109, 101, 114, 103, 101, 32] ++ quoteF (tl (wordF ws x.l.toNat)) ++ [32, 43, 32] ++ quoteF (tl (wordF ws x.r.toNat)) ++ [32, 61, 32] ++ dec3 x.i.toNat ++ [10] := by
  unfold mergeT
  rw [List.length_cons, jn_flat _ _ _ (Nat.le_refl _), List.take_length]
  simp [sMerge, sPlus, sEq]
set_option maxHeartbeats 8000000 in
theorem rprint_any (aw am a b c : Option Addr) (cw cm ca cb cc : Nat) (ws : List ByteArray) (ms : List Mg) (A B C : List Sp) (w : World) (hD : PrD w aw am a b c ws ms A B C) (hZ : PrZ ws ms A B C) (hi64 : ∀ x ∈ ms, -9223372036854775808 ≤ x.i ∧ x.i ≤ 9223372036854775807) :
    Calls Tryz.prog 7 #[.agg #[.slice aw ws.length cw, .slice am ms.length cm, .slice a A.length ca, .slice b B.length cb, .slice c C.length cc]] w fun e w' => e = .returned (.tuple #[.string (textOf (printF ws ms A B C).1), .int .i64 ((printF ws ms A B C).2 : Nat)]) ∧ Below w.heap.size w w' := by
  obtain ⟨R, hR⟩ : ∃ R, R = printF ws ms A B C := ⟨_, rfl⟩
  have HR := Lib.hid hR
  rw [← hR]
  clear hR
  have hX := DBox.new w (.slice aw ws.length cw) (.slice am ms.length cm) (.slice a A.length ca) (.slice b B.length cb) (.slice c C.length cc)
  have hb0 := box_below w (.cells #[.slice aw ws.length cw, .slice am ms.length cm, .slice a A.length ca, .slice b B.length cb, .slice c C.length cc] 26)
  obtain ⟨Y, hY⟩ : ∃ Y, Y = w.alloc (.cells #[.slice aw ws.length cw, .slice am ms.length cm, .slice a A.length ca, .slice b B.length cb, .slice c C.length cc] 26) := ⟨_, rfl⟩
  rw [← hY] at hb0 hX
  have HY := Lib.hid hY
  have hDY := hD.below hb0
  have HB0 := Lib.hid hb0
  clear hY hb0 hD
  obtain ⟨z, hz⟩ : ∃ z, z = w.heap.size := ⟨_, rfl⟩
  have HZ := Lib.hid hz
  rw [← hz] at hX
  clear hz
  have HD := Lib.hid hX
  have HDY := Lib.hid hDY
  have HSZ := Lib.hid hZ
  have HZY := Lib.hid (World.block_lt_of_cell? Y _ hX.c0)
  have x0 := hX.c0
  have x1 := hX.c1
  have x2 := hX.c2
  have x3 := hX.c3
  have x4 := hX.c4
  obtain ⟨nw, hnw⟩ : ∃ nw, nw = ws.length := ⟨_, rfl⟩
  obtain ⟨nm, hnm⟩ : ∃ nm, nm = ms.length := ⟨_, rfl⟩
  obtain ⟨na, hna⟩ : ∃ na, na = A.length := ⟨_, rfl⟩
  obtain ⟨nb, hnb⟩ : ∃ nb, nb = B.length := ⟨_, rfl⟩
  obtain ⟨nc, hnc⟩ : ∃ nc, nc = C.length := ⟨_, rfl⟩
  have hC := rright_any aw am a b c nw nm na nb nc cw cm ca cb cc ws ms Y hnw hnm hDY.hW hDY.hM hZ.w (by have := hZ.m; omega) hZ.big hi64
  have HNW := Lib.hid hnw
  have HNM := Lib.hid hnm
  have HNA := Lib.hid hna
  have HNB := Lib.hid hnb
  have HNC := Lib.hid hnc
  have HI64 := Lib.hid hi64
  rw [← hnw] at x0 HY HD ⊢
  rw [← hnm] at x1 HY HD ⊢
  rw [← hna] at x2 HY HD ⊢
  rw [← hnb] at x3 HY HD ⊢
  rw [← hnc] at x4 HY HD ⊢
  clear hX hDY hZ hnw hnm hna hnb hnc hi64
  obtain ⟨tu, htu⟩ : ∃ t, t = wordsOk ws ms := ⟨_, rfl⟩
  rw [← htu] at hC
  have HTU := Lib.hid htu
  clear htu
  go_enter Tryz.func7, Tryz.ntmps7
  go_upto_region 1 with fail
  rw [← HY.out, ← HZ.out]
  clear HY
  cases tu with
  | false =>
    have HRF := Lib.hid (show R = ([], 21) by rw [HR.out]; unfold printF; rw [if_neg (by rw [← HTU.out]; simp)])
    go_wp2_with fail
    refine hC.mono ?_
    rintro e w1 ⟨rfl, hb1⟩
    have HB1 := Lib.hid (HB0.out.trans (hb1.mono HB0.out.size))
    clear hC hb1
    go_wp2_with fail
    go_ret2
    exact ⟨by rw [HRF.out] <;> rfl, HB1.out⟩
  | true =>
    go_wp2_with fail
    refine hC.mono ?_
    rintro e w1 ⟨rfl, hb1⟩
    have HB1 := Lib.hid hb1
    have hD1 := HD.out.below hb1 HZY.out
    have x0 := hD1.c0
    have x1 := hD1.c1
    have x2 := hD1.c2
    have x3 := hD1.c3
    have x4 := hD1.c4
    clear hC hb1 hD1
    go_upto_region 4 with fail
    have hby := box_below w1 (.cells #[.slice a na ca, .slice b nb cb, .slice c nc cc] 24)
    have hgy := heap_alloc_new w1 (.cells #[.slice a na ca, .slice b nb cb, .slice c nc cc] 24)
    obtain ⟨W, hW⟩ : ∃ W, W = w1.alloc (.cells #[.slice a na ca, .slice b nb cb, .slice c nc cc] 24) := ⟨_, rfl⟩
    rw [← hW] at hby hgy ⊢
    obtain ⟨g, hg⟩ : ∃ g, g = w1.heap.size := ⟨_, rfl⟩
    rw [← hg] at hgy ⊢
    have HBW := Lib.hid (HB1.out.trans (hby.mono HB1.out.size))
    have hDW := HDY.out.below HBW.out
    have hL : ∀ i, i < 3 → ∃ (ai : Option Addr) (ni ci : Nat) (L : List Sp), W.cell? ⟨g, i, none⟩ = some (.slice ai ni ci) ∧ ni = L.length ∧ L = lstP A B C i ∧ SPS W ai L ∧ ni ≤ 1048576 := by
      intro i hi
      have e : i = 0 ∨ i = 1 ∨ i = 2 := by omega
      rcases e with rfl | rfl | rfl
      · exact ⟨a, na, ca, A, by rw [cell_of_block hgy]; rfl, HNA.out, rfl, hDW.hA, by rw [HNA.out]; exact HSZ.out.a⟩
      · exact ⟨b, nb, cb, B, by rw [cell_of_block hgy]; rfl, HNB.out, rfl, hDW.hB, by rw [HNB.out]; exact HSZ.out.b⟩
      · exact ⟨c, nc, cc, C, by rw [cell_of_block hgy]; rfl, HNC.out, rfl, hDW.hC, by rw [HNC.out]; exact HSZ.out.c⟩
    have HL := Lib.hid hL
    have HDW := Lib.hid hDW
    have HRF : Hid (runesOk A B C ≠ true → R = ([], 14)) := Lib.hid (fun h => by rw [HR.out]; unfold printF; rw [if_pos HTU.out.symm, if_neg h])
    clear hby hgy hW hg hL hDW x0 x1 x2 x3 x4
    go_wp2_with fail
    go_loopw [5] (fun v wr => ∃ i : Nat, i ≤ 3 ∧ v = .int .i64 (i : Nat) ∧ wr = W ∧ ∀ t, t < i → (lstP A B C t).all spOk = true) (fun v _ => 3 - (intOf v).toNat)
    case atStart => exact ⟨0, by omega, rfl, rfl, fun t h => by omega⟩
    case round =>
      obtain ⟨i, hi, rfl, hw, hall⟩ := hrel
      rw [hw]
      clear hw wr
      have HALL := Lib.hid hall
      clear hall
      by_cases hi3 : i < 3
      · have g0 : decide ((i : Int) < 3) = true := decide_eq_true (by omega)
        have g1 : decide (i < 3) = true := decide_eq_true hi3
        obtain ⟨ai, ni, ci, L, hci, hni, hLi, hS, hnb⟩ := HL.out i hi3
        have HNI := Lib.hid hni
        have HLI := Lib.hid hLi
        have HS := Lib.hid hS
        have ii : 0 ≤ (i : Int) ∧ (i : Int) < 3 := by omega
        clear hni hLi hS
        go_wp2_with fail
        clear g0 g1
        go_loopw [6] (fun v wr => ∃ j : Nat, j ≤ ni ∧ v = .int .i64 (j : Nat) ∧ wr = W ∧ (L.take j).all spOk = true) (fun v _ => ni - (intOf v).toNat)
        case atStart => exact ⟨0, Nat.zero_le _, rfl, rfl, rfl⟩
        case round =>
          obtain ⟨j, hj, rfl, hw, hall⟩ := hrel
          rw [hw]
          clear hw wr
          by_cases hjn : j < ni
          · have g0 : decide ((j : Int) < (ni : Int)) = true := decide_eq_true (by omega)
            have g1 : decide (j < ni) = true := decide_eq_true hjn
            have hjl : j < L.length := by rw [← HNI.out]; exact hjn
            have hat := all_take spOk L j hjl
            rw [hall, Bool.true_and] at hat
            obtain ⟨bs, os, rfl, c0, c1⟩ := HS.out.cellsAt hjl
            obtain ⟨y, hy⟩ : ∃ y, y = L[j] := ⟨_, rfl⟩
            rw [← hy] at hat c0 c1
            have hmem : y ∈ L := by rw [hy]; exact List.getElem_mem hjl
            have HRG := Lib.hid (show spOk y ≠ true → R = ([], 14) from fun h => HRF.out (fun hr => h (List.all_eq_true.1 ((runes_lst A B C).1 hr i hi3) y (by rw [← HLI.out]; exact hmem))))
            have HAT := Lib.hid hat
            have ij : 0 ≤ (j : Int) ∧ (j : Int) < (ni : Int) := by omega
            have hr1 := rrune_any y.lo W
            have hr2 := rrune_any y.hi W
            obtain ⟨s1, hs1⟩ : ∃ s, s = scalZ y.lo := ⟨_, rfl⟩
            obtain ⟨s2, hs2⟩ : ∃ s, s = scalZ y.hi := ⟨_, rfl⟩
            have HOKY := Lib.hid (show spOk y = (s1 && s2) by unfold spOk; rw [hs1, hs2])
            rw [← hs1] at hr1
            rw [← hs2] at hr2
            obtain ⟨lo, hlo⟩ : ∃ lo, lo = y.lo := ⟨_, rfl⟩
            obtain ⟨hi', hhi⟩ : ∃ hi', hi' = y.hi := ⟨_, rfl⟩
            rw [← hlo] at c0 hr1
            rw [← hhi] at c1 hr2
            clear hs1 hs2 hlo hhi hat hy hmem hall hjl hjn
            cases s1 with
            | false =>
              have HR14 := Lib.hid (HRG.out (by rw [HOKY.out]; simp))
              go_wp2_with fail
              refine hr1.mono ?_
              rintro e w' ⟨rfl, hw⟩
              rw [hw]
              clear hw w' hr1 hr2
              go_wp2_with fail
              go_ret2
              exact ⟨by rw [HR14.out] <;> rfl, HB0.out.trans (HBW.out.mono HB0.out.size)⟩
            | true =>
            go_wp2_with fail
            refine hr1.mono ?_
            rintro e w' ⟨rfl, hw⟩
            rw [hw]
            clear hw w' hr1
            go_wp2_with fail
            refine hr2.mono ?_
            rintro e w' ⟨rfl, hw⟩
            rw [hw]
            clear hw w' hr2
            cases s2 with
            | false =>
              have HR14 := Lib.hid (HRG.out (by rw [HOKY.out]; simp))
              go_wp2_with fail
              go_ret2
              exact ⟨by rw [HR14.out] <;> rfl, HB0.out.trans (HBW.out.mono HB0.out.size)⟩
            | true =>
              have HN := Lib.hid (HAT.out.trans HOKY.out)
              go_wp2_with fail
              go_roundw
              case rel => exact ⟨j + 1, by omega, by go_num, trivial, HN.out⟩
              case measure => simp only [intOf]; omega
          · have g0 : decide ((j : Int) < (ni : Int)) = false := decide_eq_false (by omega)
            have g1 : decide (j < ni) = false := decide_eq_false hjn
            have HN := Lib.hid (show ∀ t, t < i + 1 → (lstP A B C t).all spOk = true from fun t ht => by
              by_cases e : t = i
              · rw [e, ← HLI.out]
                rwa [List.take_of_length_le (by rw [← HNI.out]; omega)] at hall
              · exact HALL.out t (by omega))
            clear hall hjn
            go_wp2_with fail
            go_roundw
            case rel => exact ⟨i + 1, by omega, by go_num, trivial, HN.out⟩
            case measure => simp only [intOf]; omega
      · have g0 : decide ((i : Int) < 3) = false := decide_eq_false (by omega)
        have g1 : decide (i < 3) = false := decide_eq_false hi3
        have HRO := Lib.hid ((runes_lst A B C).2 fun t ht => HALL.out t (by omega))
        go_wp2_with fail
        have HRN := Lib.hid ((right_ok ws ms).1 HTU.out.symm).2.2
        have HMD := Lib.hid (show madeF ws (256 + ms.length) ms (fun j => decide (j < 256)) = true by
          have := HTU.out.symm
          unfold wordsOk at this
          simp only [Bool.and_eq_true] at this
          exact this.2)
        have hm100 : nm ≤ 100 := by rw [HNM.out]; exact HSZ.out.m
        clear g0 g1 hi3
        go_loopw [7, 8] (fun s v wr => ∃ k : Nat, k ≤ nm ∧ v = .int .i64 (k : Nat) ∧ s = .string (textOf (accF ws ms k)) ∧ Below Y.heap.size Y wr) (fun _ v _ => nm - (intOf v).toNat)
        case atStart => exact ⟨0, Nat.zero_le _, rfl, by rw [show accF ws ms 0 = [] by simp [accF, textF]]; rfl, HBW.out⟩
        case round =>
          obtain ⟨k, hk, rfl, rfl, hb⟩ := hrel
          have hDb := HD.out.below hb HZY.out
          have hDr := HDY.out.below hb
          have x1 := hDb.c1
          have hal := accF_len HSZ.out.big ms k (by rw [← HNM.out]; exact hk)
          have hsx : (textOf (accF ws ms k)).size ≤ 1887438800 := by
            show (accF ws ms k).toArray.size ≤ _
            simp only [List.size_toArray]
            have h1 := HSZ.out.m
            have h2 := HNM.out
            have : k * 18874388 ≤ 100 * 18874388 := Nat.mul_le_mul_right _ (by omega)
            omega
          obtain ⟨sx, hsxx⟩ : ∃ sx, sx = textOf (accF ws ms k) := ⟨_, rfl⟩
          rw [← hsxx] at hsx ⊢
          have HSX := Lib.hid hsxx
          clear hal hsxx
          by_cases hkn : k < nm
          · have d0 : decide ((k : Int) < (nm : Int)) = true := decide_eq_true (by omega)
            have d1 : decide (k < nm) = true := decide_eq_true hkn
            have hkm : k < ms.length := by rw [← HNM.out]; exact hkn
            obtain ⟨bm, off, rfl, hmg⟩ := hDr.hM.cellsAt hkm
            have hget : ms[k]? = some ms[k] := List.getElem?_eq_getElem hkm
            have hids := made_ids ms _ (fun j hj => decide_eq_true hj) HMD.out ms[k] (List.getElem_mem hkm)
            obtain ⟨x, hx⟩ : ∃ x, x = ms[k] := ⟨_, rfl⟩
            rw [← hx] at hmg hget hids
            have hrt := HRN.out k x hkm hget
            have HG := Lib.hid hget
            clear hx hget
            obtain ⟨xl, xr, xi⟩ := x
            obtain ⟨⟨vi, hvi, vi1, vi2⟩, ⟨vl, hvl, vl2⟩, vr, hvr, vr2⟩ := hids
            simp only at hvi hvl hvr
            subst hvi hvl hvr
            obtain ⟨m0, m1, m2⟩ := hmg
            simp only at m0 m1 m2
            have ik : 0 ≤ (k : Int) ∧ (k : Int) < (nm : Int) := by omega
            unfold rightAt at hrt
            simp only [Bool.and_eq_true] at hrt
            have hml : mkF ms k (vl : Int) = true := hrt.1.1.1.1.1
            have hmr : mkF ms k (vr : Int) = true := hrt.1.1.1.1.2
            have hC1 : ∀ (id : Nat), mkF ms k (id : Int) = true → ∀ wx, Below Y.heap.size Y wx → Calls Tryz.prog 24 #[.agg #[.slice aw nw cw, .slice (some ⟨bm, off, none⟩) nm cm, .slice a na ca, .slice b nb cb, .slice c nc cc], .int .i64 (k : Nat), .int .i64 (id : Nat)] wx fun e w' => e = .returned (.tuple #[.string (wordF ws id), .bool true]) ∧ Below wx.heap.size wx w' := by
              intro id hid wx hbx
              have h := rmade_any aw (some ⟨bm, off, none⟩) a b c nw nm na nb nc cw cm ca cb cc ws ms k (id : Int) wx HNW.out HNM.out (HDY.out.below hbx).hW (HDY.out.below hbx).hM (by omega) HSZ.out.w (by have := HSZ.out.m; omega) (fun j y hj hy => rightN_id HRN.out j y (by omega) hy)
              rw [hid, if_pos rfl, Int.toNat_natCast] at h
              exact h
            have hCl := hC1 vl hml
            have hCr := hC1 vr hmr
            obtain ⟨pl, hpl⟩ : ∃ p, p = wordF ws vl := ⟨_, rfl⟩
            obtain ⟨pr, hpr⟩ : ∃ p, p = wordF ws vr := ⟨_, rfl⟩
            have hzl : pl.size ≤ 1048576 := by rw [hpl]; exact wordF_le ws HSZ.out.big vl
            have hzr : pr.size ≤ 1048576 := by rw [hpr]; exact wordF_le ws HSZ.out.big vr
            simp only [← hpl] at hCl
            simp only [← hpr] at hCr
            have HPL := Lib.hid hpl
            have HPR := Lib.hid hpr
            have hbx := box_below wr (.cells #[.int .i64 (vl : Nat), .int .i64 (vr : Nat), .int .i64 (vi : Nat)] 39)
            have hyx := heap_alloc_new wr (.cells #[.int .i64 (vl : Nat), .int .i64 (vr : Nat), .int .i64 (vi : Nat)] 39)
            have HB2 := Lib.hid (hb.trans (hbx.mono hb.size))
            have HVI := Lib.hid (show 256 ≤ vi ∧ vi < 356 by have := HSZ.out.m; omega)
            clear hC1 hml hmr hrt hpl hpr hkm hDb hDr
            go_upto_region 17 with fail
            obtain ⟨V, hV⟩ : ∃ V, V = wr.alloc (.cells #[.int .i64 (vl : Nat), .int .i64 (vr : Nat), .int .i64 (vi : Nat)] 39) := ⟨_, rfl⟩
            rw [← hV] at hyx HB2 ⊢
            obtain ⟨y, hyy⟩ : ∃ y, y = wr.heap.size := ⟨_, rfl⟩
            rw [← hyy] at hyx ⊢
            have y0 : V.cell? ⟨y, 0, none⟩ = some (.int .i64 (vl : Nat)) := by rw [cell_of_block hyx]; rfl
            have y1 : V.cell? ⟨y, 1, none⟩ = some (.int .i64 (vr : Nat)) := by rw [cell_of_block hyx]; rfl
            have y2 : V.cell? ⟨y, 2, none⟩ = some (.int .i64 (vi : Nat)) := by rw [cell_of_block hyx]; rfl
            have hD := HD.out.below HB2.out HZY.out
            have z0 := hD.c0
            have z1 := hD.c1
            have z2 := hD.c2
            have z3 := hD.c3
            have z4 := hD.c4
            have HKN := Lib.hid hkn
            clear hbx hV hyy m0 m1 m2 hyx x1 hb hD d0 d1 hkn
            go_wp2_with fail
            refine (hCl V HB2.out).mono ?_
            rintro e w2 ⟨rfl, hb1⟩
            have HB3 := Lib.hid (HB2.out.trans (hb1.mono HB2.out.size))
            have y1 := (hb1.cell (World.block_lt_of_cell? V _ y1)).trans y1
            have y2 := (hb1.cell (World.block_lt_of_cell? V _ y2)).trans y2
            have hD := HD.out.below HB3.out HZY.out
            have z0 := hD.c0
            have z1 := hD.c1
            have z2 := hD.c2
            have z3 := hD.c3
            have z4 := hD.c4
            clear hCl hb1 hD y0
            go_wp2_with fail
            refine (hCr w2 HB3.out).mono ?_
            rintro e w3 ⟨rfl, hb1⟩
            have HB4 := Lib.hid (HB3.out.trans (hb1.mono HB3.out.size))
            have y2 := (hb1.cell (World.block_lt_of_cell? w2 _ y2)).trans y2
            clear hCr hb1 z0 z1 z2 z3 z4 y1
            go_upto_region 19 with fail
            have HQ1 := fun d os => rquote_any pl (grow (redrawn w3 d) os) (by omega)
            have HQ2 := fun d os => rquote_any pr (grow (redrawn w3 d) os) (by omega)
            have HIt := fun d os => number_any vi HVI.out.1 (by have := HVI.out.2; omega) (grow (redrawn w3 d) os)
            have k2 := cell_regrown y2
            have hz1 : (textOf (quoteF (tl pl))).size ≤ 3145730 := by
              show (quoteF (tl pl)).toArray.size ≤ _
              simp only [List.size_toArray]
              exact quote_len pl hzl
            have hz2 : (textOf (quoteF (tl pr))).size ≤ 3145730 := by
              show (quoteF (tl pr)).toArray.size ≤ _
              simp only [List.size_toArray]
              exact quote_len pr hzr
            have hz3 : (textOf (dec3 vi)).size = 3 := rfl
            have HN := Lib.hid (show sx ++ (⟨#[109, 101, 114, 103, 101, 32]⟩ : ByteArray) ++ textOf (quoteF (tl pl)) ++ (⟨#[32, 43, 32]⟩ : ByteArray) ++ textOf (quoteF (tl pr)) ++ (⟨#[32, 61, 32]⟩ : ByteArray) ++ textOf (dec3 vi) ++ (⟨#[10]⟩ : ByteArray) = textOf (accF ws ms (k + 1)) by
              rw [accF_succ HG.out, merge_line, HSX.out, HPL.out, HPR.out]
              rw [show (⟨#[109, 101, 114, 103, 101, 32]⟩ : ByteArray) = textOf [109, 101, 114, 103, 101, 32] from rfl, show (⟨#[32, 43, 32]⟩ : ByteArray) = textOf [32, 43, 32] from rfl, show (⟨#[32, 61, 32]⟩ : ByteArray) = textOf [32, 61, 32] from rfl, show (⟨#[10]⟩ : ByteArray) = textOf [10] from rfl]
              simp only [text_add, Int.toNat_natCast, List.append_assoc])
            obtain ⟨t1, ht1⟩ : ∃ t, t = textOf (quoteF (tl pl)) := ⟨_, rfl⟩
            obtain ⟨t2, ht2⟩ : ∃ t, t = textOf (quoteF (tl pr)) := ⟨_, rfl⟩
            obtain ⟨t3, ht3⟩ : ∃ t, t = textOf (dec3 vi) := ⟨_, rfl⟩
            simp only [← ht1] at HQ1 hz1 HN
            simp only [← ht2] at HQ2 hz2 HN
            simp only [← ht3] at HIt hz3 HN
            clear ht1 ht2 ht3
            refine wp_region_quiet_tail (C := fun w' => ∃ p : Regrown, w' = grow (redrawn w3 p.d) p.os) 15 (by kernel_rfl) (by kernel_rfl) ⟨⟨_, #[]⟩, by rw [grow_empty]; rfl⟩ ?_
            simp only [List.take_succ_cons, List.take_zero, List.drop_succ_cons, List.drop_zero]
            repeat (go_big_quiet_step (fail))
            go_big_quiet_step ((go_at_call 25; exact Calls.regrown_of (HQ1 _ _)))
            repeat (go_big_quiet_step (fail))
            go_big_quiet_step ((go_at_call 25; exact Calls.regrown_of (HQ2 _ _)))
            repeat (go_big_quiet_step (fail))
            go_big_quiet_step ((go_at_call 26; exact Calls.regrown_of (HIt _ _)))
            repeat (go_big_quiet_step (fail))
            refine wpQuiet_nil ?_
            intro W5 hw'
            have hb5 : Below w3.heap.size w3 W5 := by
              obtain ⟨⟨dq, osq⟩, rfl⟩ := hw'
              exact below_regrown _ _ _
            have HB5 := Lib.hid (HB4.out.trans (hb5.mono HB4.out.size))
            clear hw' k2 HQ1 HQ2 HIt hb5
            go_wp2_with fail
            go_roundw
            case rel => exact ⟨k + 1, by have h9 := (List.getElem?_eq_some_iff.1 HG.out).1; have h8 := HNM.out; omega, by go_num, by rw [HN.out], HB5.out⟩
            case measure => have h9 := (List.getElem?_eq_some_iff.1 HG.out).1; have h8 := HNM.out; simp only [intOf]; omega
          · have d0 : decide ((k : Int) < (nm : Int)) = false := decide_eq_false (by omega)
            have d1 : decide (k < nm) = false := decide_eq_false hkn
            have HKM := Lib.hid (show k = ms.length by rw [← HNM.out]; omega)
            have HBR := Lib.hid hb
            have x2 := hDb.c2
            have x3 := hDb.c3
            have x4 := hDb.c4
            have hro := (runes_lst A B C).1 HRO.out
            have hA : A.all spOk = true := hro 0 (by omega)
            have hB : B.all spOk = true := hro 1 (by omega)
            have hC : C.all spOk = true := hro 2 (by omega)
            have HQ1 := fun d os => line_any nmL (by decide) a ca A (grow (redrawn wr d) os) (hDr.hA.below (below_regrown wr d os)) (by have := HSZ.out.a; omega) hA
            have HQ2 := fun d os => line_any nmN (by decide) b cb B (grow (redrawn wr d) os) (hDr.hB.below (below_regrown wr d os)) (by have := HSZ.out.b; omega) hB
            have HQ3 := fun d os => line_any nmS (by decide) c cc C (grow (redrawn wr d) os) (hDr.hC.below (below_regrown wr d os)) (by have := HSZ.out.c; omega) hC
            rw [← HNA.out] at HQ1
            rw [← HNB.out] at HQ2
            rw [← HNC.out] at HQ3
            have hz : ∀ (nm : List UInt8) (l : List Sp), nm.length ≤ 8 → l.length ≤ 1048576 → l.all spOk = true → (textOf (lnT [10] (clsT nm l))).size ≤ 30000000 := by
              intro nm l h1 h2 h3
              rw [← lineR_eq]
              show (lineR nm l).toArray.size ≤ _
              simp only [List.size_toArray]
              unfold lineR
              have := flatR_len h3
              simp only [List.length_append, List.length_cons, List.length_nil]
              omega
            have hz1 := hz nmL A (by decide) HSZ.out.a hA
            have hz2 := hz nmN B (by decide) HSZ.out.b hB
            have hz3 := hz nmS C (by decide) HSZ.out.c hC
            have HN := Lib.hid (show sx ++ textOf (lnT [10] (clsT nmL A)) ++ textOf (lnT [10] (clsT nmN B)) ++ textOf (lnT [10] (clsT nmS C)) = textOf (textF [10] (linesF ws ms A B C)) by
              rw [text_all, HSX.out, HKM.out]
              simp only [text_add])
            have HRZ := Lib.hid (show R = (textF [10] (linesF ws ms A B C), 0) by rw [HR.out]; unfold printF; rw [if_pos HTU.out.symm, if_pos HRO.out])
            obtain ⟨t1, ht1⟩ : ∃ t, t = textOf (lnT [10] (clsT nmL A)) := ⟨_, rfl⟩
            obtain ⟨t2, ht2⟩ : ∃ t, t = textOf (lnT [10] (clsT nmN B)) := ⟨_, rfl⟩
            obtain ⟨t3, ht3⟩ : ∃ t, t = textOf (lnT [10] (clsT nmS C)) := ⟨_, rfl⟩
            simp only [← ht1] at HQ1 hz1 HN
            simp only [← ht2] at HQ2 hz2 HN
            simp only [← ht3] at HQ3 hz3 HN
            rw [show (textOf nmL : ByteArray) = ⟨#[108, 101, 116, 116, 101, 114, 115]⟩ from rfl] at HQ1
            rw [show (textOf nmN : ByteArray) = ⟨#[110, 117, 109, 98, 101, 114, 115]⟩ from rfl] at HQ2
            rw [show (textOf nmS : ByteArray) = ⟨#[115, 112, 97, 99, 101, 115]⟩ from rfl] at HQ3
            have k2 := cell_regrown x2
            have k3 := cell_regrown x3
            have k4 := cell_regrown x4
            clear ht1 ht2 ht3 hz hro hA hB hC hb hDr hDb hkn
            go_upto_region 20 with fail
            refine wp_region_quiet_tail (C := fun w' => ∃ p : Regrown, w' = grow (redrawn wr p.d) p.os) 13 (by kernel_rfl) (by kernel_rfl) ⟨⟨_, #[]⟩, by rw [grow_empty]; rfl⟩ ?_
            simp only [List.take_succ_cons, List.take_zero, List.drop_succ_cons, List.drop_zero]
            repeat (go_big_quiet_step (fail))
            go_big_quiet_step ((go_at_call 27; exact Calls.regrown_of (HQ1 _ _)))
            repeat (go_big_quiet_step (fail))
            go_big_quiet_step ((go_at_call 27; exact Calls.regrown_of (HQ2 _ _)))
            repeat (go_big_quiet_step (fail))
            go_big_quiet_step ((go_at_call 27; exact Calls.regrown_of (HQ3 _ _)))
            repeat (go_big_quiet_step (fail))
            refine wpQuiet_nil ?_
            intro W5 hw'
            have hb5 : Below wr.heap.size wr W5 := by
              obtain ⟨⟨dq, osq⟩, rfl⟩ := hw'
              exact below_regrown _ _ _
            have HB5 := Lib.hid (HB0.out.trans ((HBR.out.trans (hb5.mono HBR.out.size)).mono HB0.out.size))
            clear hw' k2 k3 k4 HQ1 HQ2 HQ3 hb5
            go_wp2_with fail
            go_ret2
            exact ⟨by rw [HRZ.out, ← HN.out] <;> rfl, HB5.out⟩
end Go.Proofs.YtonbfcpbgkpbaaaGreatDoor
end
section
/- The law's reads, at a recipe that is read; known. -/
namespace Go.Proofs.YtonbfcpbgkpbaaaGreatDoor
open Go.RowKit Go.Sort Go.Joins
set_option linter.unusedVariables false
set_option linter.unusedSimpArgs false
set_option maxRecDepth 100000
theorem OwnG.wsp {w : World} {base : Nat} {a : Option Addr} {c : Nat} {l : List (List UInt8)} (h : OwnG 9 1 encS1 w base (.slice a l.length c) l) : WSP w a (l.map textOf) := by
  cases l with
  | nil => exact .inl rfl
  | cons s l =>
    obtain ⟨b, ha, -, -, -⟩ := OwnG.row (k := 1) (enc := encS1) (fun _ => rfl) h (i := 0) rfl
    refine .inr ⟨b, 0, ha, fun i x hx => ?_⟩
    rw [List.getElem?_map] at hx
    cases hy : (s :: l)[i]? with
    | none => rw [hy] at hx; cases hx
    | some y =>
      rw [hy] at hx
      obtain rfl : textOf y = x := Option.some.inj hx
      obtain ⟨b', ha', -, -, hc⟩ := OwnG.row (k := 1) (enc := encS1) (fun _ => rfl) h hy
      rw [ha] at ha'
      cases ha'
      have := hc 0 (by omega)
      rw [Nat.mul_one, Nat.add_zero] at this
      rw [Nat.zero_add]
      exact this
theorem OwnG.msp {w : World} {base : Nat} {a : Option Addr} {c : Nat} {l : List Mg} (h : OwnG 39 3 encG w base (.slice a l.length c) l) : MSP w a l := by
  cases l with
  | nil => exact .inl rfl
  | cons s l =>
    obtain ⟨b, ha, -, -, -⟩ := OwnG.row (k := 3) (enc := encG) (fun _ => rfl) h (i := 0) rfl
    refine .inr ⟨b, 0, ha, fun i x hx => ?_⟩
    obtain ⟨b', ha', -, -, hc⟩ := OwnG.row (k := 3) (enc := encG) (fun _ => rfl) h hx
    rw [ha] at ha'
    cases ha'
    rw [Nat.zero_add]
    exact ⟨(hc 0 (by omega)).trans rfl, (hc 1 (by omega)).trans rfl, (hc 2 (by omega)).trans rfl⟩
theorem OwnG.sps {w : World} {base : Nat} {a : Option Addr} {c : Nat} {l : List Sp} (h : OwnG 41 2 encS w base (.slice a l.length c) l) : SPS w a l := by
  cases l with
  | nil => exact .inl rfl
  | cons s l =>
    obtain ⟨b, ha, -, -, -⟩ := OwnG.row (k := 2) (enc := encS) (fun _ => rfl) h (i := 0) rfl
    refine .inr ⟨b, 0, ha, fun i x hx => ?_⟩
    obtain ⟨b', ha', -, -, hc⟩ := OwnG.row (k := 2) (enc := encS) (fun _ => rfl) h hx
    rw [ha] at ha'
    cases ha'
    rw [Nat.zero_add]
    exact ⟨(hc 0 (by omega)).trans rfl, (hc 1 (by omega)).trans rfl⟩
set_option maxHeartbeats 4000000 in
theorem reads_ok (src : ByteArray) (d : PD) (b0 b1 b2 b3 b4 : Option Addr) (d0 d1 d2 d3 d4 : Nat) (w : World) (hs : src.size ≤ 4194304) (hp : parseA (tl src) = .ok d) (hn : d.W.length ≤ 4611686018427387904 ∧ d.M.length ≤ 4611686018427387904 ∧ d.A.length ≤ 4611686018427387904 ∧ d.B.length ≤ 4611686018427387904 ∧ d.C.length ≤ 4611686018427387904)
    (k0 : WSP w b0 (d.W.map textOf)) (k1 : MSP w b1 d.M) (k2 : SPS w b2 d.A) (k3 : SPS w b3 d.B) (k4 : SPS w b4 d.C) :
    Calls Tryz.prog 9 #[.string src, .agg #[.slice b0 d.W.length d0, .slice b1 d.M.length d1, .slice b2 d.A.length d2, .slice b3 d.B.length d3, .slice b4 d.C.length d4], .agg #[.int .i64 0, .int .i64 0, .int .i64 0], .int .i64 0] w fun e w' => e = .returned (.bool true) ∧ Below w.heap.size w w' := by
  have HP := fun wx => parse_any src (fun _ => (0, 0)) wx (by omega) (fun y hy => by rw [hp] at hy; cases hy)
  rw [hp] at HP
  obtain ⟨nW, hnW⟩ : ∃ n, n = d.W.length := ⟨_, rfl⟩
  obtain ⟨nM, hnM⟩ : ∃ n, n = d.M.length := ⟨_, rfl⟩
  obtain ⟨nA, hnA⟩ : ∃ n, n = d.A.length := ⟨_, rfl⟩
  obtain ⟨nB, hnB⟩ : ∃ n, n = d.B.length := ⟨_, rfl⟩
  obtain ⟨nC, hnC⟩ : ∃ n, n = d.C.length := ⟨_, rfl⟩
  have HN := Lib.hid hn
  have K0 := Lib.hid k0
  have K1 := Lib.hid k1
  have K2 := Lib.hid k2
  have K3 := Lib.hid k3
  have K4 := Lib.hid k4
  have HNW := Lib.hid hnW
  have HNM := Lib.hid hnM
  have HNA := Lib.hid hnA
  have HNB := Lib.hid hnB
  have HNC := Lib.hid hnC
  rw [← hnW, ← hnM, ← hnA, ← hnB, ← hnC]
  have bx1 := box_below w (.cells #[.slice b0 nW d0, .slice b1 nM d1, .slice b2 nA d2, .slice b3 nB d3, .slice b4 nC d4] 26)
  have hb1 := heap_alloc_new w (.cells #[.slice b0 nW d0, .slice b1 nM d1, .slice b2 nA d2, .slice b3 nB d3, .slice b4 nC d4] 26)
  obtain ⟨w1, hw1⟩ : ∃ w1, w1 = w.alloc (.cells #[.slice b0 nW d0, .slice b1 nM d1, .slice b2 nA d2, .slice b3 nB d3, .slice b4 nC d4] 26) := ⟨_, rfl⟩
  have hs1 : w1.heap.size = w.heap.size + 1 := by rw [hw1]; simp
  rw [← hw1] at bx1 hb1
  have bx2 := box_below w1 (.cells #[.int .i64 0, .int .i64 0, .int .i64 0] 43)
  have hb2 := heap_alloc_new w1 (.cells #[.int .i64 0, .int .i64 0, .int .i64 0] 43)
  obtain ⟨w2, hw2⟩ : ∃ w2, w2 = w1.alloc (.cells #[.int .i64 0, .int .i64 0, .int .i64 0] 43) := ⟨_, rfl⟩
  have hs2 : w2.heap.size = w.heap.size + 2 := by rw [hw2]; simp; omega
  rw [← hw2] at bx2 hb2
  rw [hs1] at hb2
  have hb1 := (bx2.block w.heap.size (by omega)).trans hb1
  have HB2 := Lib.hid (bx1.trans (bx2.mono bx1.size))
  have HW1 := Lib.hid hw1
  have HW2 := Lib.hid hw2
  have HD1 := Lib.hid hb1
  have HD2 := Lib.hid hb2
  have HS2 := Lib.hid hs2
  clear hp hn k0 k1 k2 k3 k4 hnW hnM hnA hnB hnC bx1 bx2 hw1 hw2 hs1 hs2 hb1 hb2
  go_enter Tryz.func9, Tryz.ntmps9
  go_wp2_with fail
  rw [← HW1.out, ← HW2.out]
  refine (HP _).mono ?_
  rintro e w3 ⟨hb3, vW, vM, vA, vB, vC, rfl, hO⟩
  obtain ⟨xW, cW, rfl⟩ := hO.oW.slice
  obtain ⟨xM, cM, rfl⟩ := hO.oM.slice
  obtain ⟨xA, cA, rfl⟩ := hO.oA.slice
  obtain ⟨xB, cB, rfl⟩ := hO.oB.slice
  obtain ⟨xC, cC, rfl⟩ := hO.oC.slice
  have j0 := hO.oW.wsp
  have j1 := hO.oM.msp
  have j2 := hO.oA.sps
  have j3 := hO.oB.sps
  have j4 := hO.oC.sps
  have bb2 := HB2.out
  have hD1 := (hb3.block w.heap.size (by have := HS2.out; omega)).trans HD1.out
  have hD2 := (hb3.block (w.heap.size + 1) (by have := HS2.out; omega)).trans HD2.out
  have hb3' := bb2.trans (hb3.mono bb2.size)
  have bx4 := box_below w3 (.cells #[.slice xW d.W.length cW, .slice xM d.M.length cM, .slice xA d.A.length cA, .slice xB d.B.length cB, .slice xC d.C.length cC] 26)
  have bx5 := bx4.trans ((box_below (w3.alloc (.cells #[.slice xW d.W.length cW, .slice xM d.M.length cM, .slice xA d.A.length cA, .slice xB d.B.length cB, .slice xC d.C.length cC] 26)) (.cells #[.int .i64 0, .int .i64 0, .int .i64 0] 69)).mono bx4.size)
  have i0 := (K0.out.below hb3').below bx5
  have i1 := (K1.out.below hb3').below bx5
  have i2 := (K2.out.below hb3').below bx5
  have i3 := (K3.out.below hb3').below bx5
  have i4 := (K4.out.below hb3').below bx5
  have j0 := j0.below bx5
  have j1 := j1.below bx5
  have j2 := j2.below bx5
  have j3 := j3.below bx5
  have j4 := j4.below bx5
  have hE1 := (bx5.block w.heap.size (by have := hb3'.size; have := (Array.getElem?_eq_some_iff.1 hD1).1; omega)).trans hD1
  have hE2 := (bx5.block (w.heap.size + 1) (by have := (Array.getElem?_eq_some_iff.1 hD2).1; omega)).trans hD2
  have hlen : (d.W.map textOf).length = d.W.length := by simp
  have HSM := keepSame_any xW xM xA xB xC b0 b1 b2 b3 b4 cW cM cA cB cC d0 d1 d2 d3 d4 (d.W.map textOf) d.M d.A d.B d.C _ (by rw [hlen]; exact HN.out) j0 j1 j2 j3 j4 i0 i1 i2 i3 i4
  rw [hlen, ← HNW.out, ← HNM.out, ← HNA.out, ← HNB.out, ← HNC.out] at HSM
  rw [← HNW.out, ← HNM.out, ← HNA.out, ← HNB.out, ← HNC.out] at bx5 hE1 hE2
  have HBX := Lib.hid (hb3'.trans (bx5.mono hb3'.size))
  have y0 : ((w3.alloc (.cells #[.slice xW nW cW, .slice xM nM cM, .slice xA nA cA, .slice xB nB cB, .slice xC nC cC] 26)).alloc (.cells #[.int .i64 0, .int .i64 0, .int .i64 0] 69)).cell? ⟨w.heap.size, 0, none⟩ = some (.slice b0 nW d0) := (cell_of_block hE1 0).trans rfl
  have y1 : ((w3.alloc (.cells #[.slice xW nW cW, .slice xM nM cM, .slice xA nA cA, .slice xB nB cB, .slice xC nC cC] 26)).alloc (.cells #[.int .i64 0, .int .i64 0, .int .i64 0] 69)).cell? ⟨w.heap.size, 1, none⟩ = some (.slice b1 nM d1) := (cell_of_block hE1 1).trans rfl
  have y2 : ((w3.alloc (.cells #[.slice xW nW cW, .slice xM nM cM, .slice xA nA cA, .slice xB nB cB, .slice xC nC cC] 26)).alloc (.cells #[.int .i64 0, .int .i64 0, .int .i64 0] 69)).cell? ⟨w.heap.size, 2, none⟩ = some (.slice b2 nA d2) := (cell_of_block hE1 2).trans rfl
  have y3 : ((w3.alloc (.cells #[.slice xW nW cW, .slice xM nM cM, .slice xA nA cA, .slice xB nB cB, .slice xC nC cC] 26)).alloc (.cells #[.int .i64 0, .int .i64 0, .int .i64 0] 69)).cell? ⟨w.heap.size, 3, none⟩ = some (.slice b3 nB d3) := (cell_of_block hE1 3).trans rfl
  have y4 : ((w3.alloc (.cells #[.slice xW nW cW, .slice xM nM cM, .slice xA nA cA, .slice xB nB cB, .slice xC nC cC] 26)).alloc (.cells #[.int .i64 0, .int .i64 0, .int .i64 0] 69)).cell? ⟨w.heap.size, 4, none⟩ = some (.slice b4 nC d4) := (cell_of_block hE1 4).trans rfl
  have z0 : ((w3.alloc (.cells #[.slice xW nW cW, .slice xM nM cM, .slice xA nA cA, .slice xB nB cB, .slice xC nC cC] 26)).alloc (.cells #[.int .i64 0, .int .i64 0, .int .i64 0] 69)).cell? ⟨w.heap.size + 1, 0, none⟩ = some (.int .i64 0) := (cell_of_block hE2 0).trans rfl
  have z1 : ((w3.alloc (.cells #[.slice xW nW cW, .slice xM nM cM, .slice xA nA cA, .slice xB nB cB, .slice xC nC cC] 26)).alloc (.cells #[.int .i64 0, .int .i64 0, .int .i64 0] 69)).cell? ⟨w.heap.size + 1, 1, none⟩ = some (.int .i64 0) := (cell_of_block hE2 1).trans rfl
  have z2 : ((w3.alloc (.cells #[.slice xW nW cW, .slice xM nM cM, .slice xA nA cA, .slice xB nB cB, .slice xC nC cC] 26)).alloc (.cells #[.int .i64 0, .int .i64 0, .int .i64 0] 69)).cell? ⟨w.heap.size + 1, 2, none⟩ = some (.int .i64 0) := (cell_of_block hE2 2).trans rfl
  rw [← HNW.out, ← HNM.out, ← HNA.out, ← HNB.out, ← HNC.out]
  clear j0 j1 j2 j3 j4 i0 i1 i2 i3 i4 hE1 hE2 hD1 hD2 bx4 bx5 hO hb3 hb3' bb2 hlen HP
  go_wp2_with fail
  refine HSM.mono ?_
  rintro e w6 ⟨rfl, hb6⟩
  go_wp2_with fail
  go_ret
  exact ⟨rfl, HBX.out.trans (hb6.mono HBX.out.size)⟩
end Go.Proofs.YtonbfcpbgkpbaaaGreatDoor
end
section
/- The law's known: its contract. -/
namespace Go.Proofs.YtonbfcpbgkpbaaaGreatDoor
open Go.RowKit Go.Sort Go.Joins
set_option linter.unusedVariables false
set_option linter.unusedSimpArgs false
set_option maxRecDepth 100000
def kSrc : ByteArray := ⟨#[109, 101, 114, 103, 101, 32, 34, 97, 34, 43, 34, 98, 34, 61, 50, 53, 54, 32, 115, 112, 97, 99, 101, 115, 123, 85, 43, 48, 48, 50, 48, 125]⟩
theorem parse_known : parseA (tl kSrc) = .ok ⟨[[97, 98]], [⟨97, 98, 256⟩], [], [], [⟨32, 32⟩]⟩ := by kernel_rfl
theorem quote_known : textOf (quoteF (tl ⟨#[97, 34, 10]⟩)) = ⟨#[34, 97, 92, 34, 92, 48, 97, 34]⟩ := by kernel_rfl
set_option maxHeartbeats 2000000 in
theorem known_any (w : World) : Calls Tryz.prog 4 #[] w fun e w' => e = .returned (.bool true) ∧ Below w.heap.size w w' := by
  have b1 := box_below w (.cells #[.string ⟨#[97, 98]⟩] 9)
  have k1 : WSP (w.alloc (.cells #[.string ⟨#[97, 98]⟩] 9)) (some ⟨w.heap.size, 0, none⟩) [⟨#[97, 98]⟩] := WSP.new w [⟨#[97, 98]⟩] 9
  obtain ⟨w1, hw1⟩ : ∃ w1, w1 = w.alloc (.cells #[.string ⟨#[97, 98]⟩] 9) := ⟨_, rfl⟩
  rw [← hw1] at b1 k1
  have hs1 : w1.heap.size = w.heap.size + 1 := by rw [hw1]; simp
  have b2 := box_below w1 (.cells #[.int .i64 97, .int .i64 98, .int .i64 256] 39)
  have k2 : MSP (w1.alloc (.cells #[.int .i64 97, .int .i64 98, .int .i64 256] 39)) (some ⟨w1.heap.size, 0, none⟩) [⟨97, 98, 256⟩] := MSP.new w1 [⟨97, 98, 256⟩] 39
  obtain ⟨w2, hw2⟩ : ∃ w2, w2 = w1.alloc (.cells #[.int .i64 97, .int .i64 98, .int .i64 256] 39) := ⟨_, rfl⟩
  rw [← hw2] at b2 k2
  have hs2 : w2.heap.size = w.heap.size + 2 := by rw [hw2]; simp; omega
  have b3 := box_below w2 (.cells #[.int .i32 32, .int .i32 32] 41)
  have k3 : SPS (w2.alloc (.cells #[.int .i32 32, .int .i32 32] 41)) (some ⟨w2.heap.size, 0, none⟩) [⟨32, 32⟩] := SPS.new w2 [⟨32, 32⟩] 41
  obtain ⟨w3, hw3⟩ : ∃ w3, w3 = w2.alloc (.cells #[.int .i32 32, .int .i32 32] 41) := ⟨_, rfl⟩
  rw [← hw3] at b3 k3
  have HR := reads_ok kSrc ⟨[[97, 98]], [⟨97, 98, 256⟩], [], [], [⟨32, 32⟩]⟩ (some ⟨w.heap.size, 0, none⟩) (some ⟨w1.heap.size, 0, none⟩) none none (some ⟨w2.heap.size, 0, none⟩) 1 1 0 0 1 w3 (by decide) parse_known ⟨by decide, by decide, by decide, by decide, by decide⟩ ((k1.below b2).below b3) (k2.below b3) (.inl rfl) (.inl rfl) k3
  have hb := (b1.trans (b2.mono b1.size)).trans (b3.mono (Nat.le_trans b1.size b2.size))
  have HQ := fun wx => quote_any ⟨#[97, 34, 10]⟩ wx (by decide)
  rw [quote_known] at HQ
  have HW1 := Lib.hid hw1
  have HW2 := Lib.hid hw2
  have HW3 := Lib.hid hw3
  have HB := Lib.hid hb
  have HS1 := Lib.hid hs1
  have HS2 := Lib.hid hs2
  unfold kSrc at HR
  rw [hs1, hs2] at HR
  clear hw1 hw2 hw3 hb hs1 hs2 b1 b2 b3 k1 k2 k3
  go_enter Tryz.func4, Tryz.ntmps4
  go_wp2_with fail
  rw [← HW1.out, ← HW2.out, ← HW3.out]
  refine HR.mono ?_
  rintro e w4 ⟨rfl, hb4⟩
  go_wp2_with fail
  refine (HQ _).mono ?_
  rintro e w5 ⟨rfl, hb5⟩
  go_wp2_with fail
  go_ret
  exact ⟨rfl, (HB.out.trans (hb4.mono HB.out.size)).trans (hb5.mono (Nat.le_trans HB.out.size hb4.size))⟩
end Go.Proofs.YtonbfcpbgkpbaaaGreatDoor
end
